// Package lineal: patterns that are matched in one pass, and documents held against them: see DOC.md.
package lineal

import (
	"lineal/api"
	"lineal/chars"
	"lineal/document"
	"lineal/hold"
	"lineal/parse"
	"lineal/part"
	"lineal/program"
	"lineal/schema"
	"lineal/store"
)

// Pattern is one that was read.
type Pattern struct {
	size    int
	program *program.Program
}

// Finder finds a pattern in texts.
type Finder struct {
	store *store.Store
}

// Compile reads a pattern (P3).
func Compile(pattern string) (*Pattern, api.Errno, int) {
	whole, err := parse.Pattern(pattern)
	if err != nil {
		return nil, number(err), place(err)
	}
	return &Pattern{size: part.PatternSize(whole), program: program.New(whole)}, api.OK, 0
}

// Size tells the pattern's size (P4).
func (p *Pattern) Size() int { return p.size }

// Ends tells where matches from a place end (P5).
func (p *Pattern) Ends(text string, from int) ([]int, api.Errno, int) {
	letters, err := chars.Letters(text, api.MaxText)
	if err != nil {
		return nil, number(err), place(err)
	}
	if from < 0 || from > len(letters) {
		return nil, api.ErrArg, 0
	}
	return p.program.Ends(letters, from), api.OK, 0
}

// Finder makes a finder (P6).
func (p *Pattern) Finder(states int) (*Finder, api.Errno) {
	if states < 2 || states > api.MaxStates {
		return nil, api.ErrArg
	}
	return &Finder{store: store.New(p.program, states)}, api.OK
}

// Find tells whether the pattern matches somewhere in a text (P7).
func (f *Finder) Find(text string, empties []int) (bool, api.Errno, int) {
	letters, err := chars.Letters(text, api.MaxText)
	if err != nil {
		return false, number(err), place(err)
	}
	return f.store.Find(letters, empties), api.OK, 0
}

// Live tells how many states the store has (P8).
func (f *Finder) Live() int { return f.store.Live() }

// Validate holds a document against schemas (P11).
func Validate(nodes []api.Node, schemas []api.Schema) ([]api.Failure, api.Errno, int) {
	tree, err := document.Read(nodes)
	if err != nil {
		return nil, number(err), place(err)
	}
	rules, err := schema.Read(schemas)
	if err != nil {
		return nil, number(err), place(err)
	}
	return hold.Failures(tree, rules), api.OK, 0
}
