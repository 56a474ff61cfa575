// Package program: patterns as programs, and their runs over texts, in one pass.
package program

import (
	"slices"

	"lineal/charset"
	"lineal/part"
)

// Program is the steps of a pattern. A place in it is the number of a step.
type Program struct {
	steps []step
	start int
	word  charset.Set // a word's characters; none, where no step asks for them
	cuts  []rune      // between which all characters are alike
}

// matched is the place of the step at which the pattern has matched.
const matched = 0

type step struct {
	kind        kind
	set         charset.Set    // of a taker
	assertion   part.Assertion // of a test
	next, other int            // other: of a fork
}

type kind int

const (
	finish kind = iota // the step at matched
	taker              // takes a character of its set
	test               // goes on where its assertion holds
	fork               // goes on to next, and to other
)

// New makes the program of a pattern that has these alternatives.
func New(alternatives part.Part) *Program {
	b := &builder{}
	b.add(step{kind: finish})
	start := b.build(alternatives, matched)
	p := &Program{steps: b.steps, start: start}
	if slices.ContainsFunc(p.steps, step.asksForWords) {
		p.word = charset.Word()
	}
	p.cuts = cutsOf(p.sets())
	return p
}

func (s step) asksForWords() bool {
	return s.kind == test && (s.assertion == part.Edge || s.assertion == part.Between)
}

type builder struct {
	steps []step
}

func (b *builder) add(s step) int {
	b.steps = append(b.steps, s)
	return len(b.steps) - 1
}

// build adds the steps of a part that goes on at next, and tells where it
// begins: at next, if it has none.
func (b *builder) build(p part.Part, next int) int {
	switch p := p.(type) {
	case part.Assertion:
		return b.add(step{kind: test, assertion: p, next: next})
	case part.Choice:
		return b.choice(p, next)
	case part.Sequence:
		return b.sequence(p, next)
	case part.Repeat:
		return b.repeat(p, next)
	default:
		return b.add(step{kind: taker, set: charset.Matched(p), next: next})
	}
}

func (b *builder) choice(c part.Choice, next int) int {
	begin := b.build(c[0], next)
	for _, p := range c[1:] {
		begin = b.add(step{kind: fork, next: begin, other: b.build(p, next)})
	}
	return begin
}

func (b *builder) sequence(s part.Sequence, next int) int {
	begin := next
	for i := len(s) - 1; i >= 0; i-- {
		begin = b.build(s[i], begin)
	}
	return begin
}

func (b *builder) repeat(r part.Repeat, next int) int {
	if r.Most == part.NoMost {
		return b.loop(r, next)
	}
	begin := next
	for range r.Most - r.Least {
		begin = b.add(step{kind: fork, next: b.build(r.Part, begin), other: next})
	}
	return b.times(r.Part, r.Least, begin)
}

// loop makes one of the times that a part must match the one that is gone
// through again and again, so that it needs no steps of its own.
func (b *builder) loop(r part.Repeat, next int) int {
	again := b.add(step{kind: fork, other: next})
	once := b.build(r.Part, again)
	b.steps[again].next = once
	if r.Least == 0 {
		return again
	}
	return b.times(r.Part, r.Least-1, once)
}

// times stops where a part has no steps: counts of it that stand within one
// another would never end, and it matches nothing but the empty text anyway.
func (b *builder) times(p part.Part, count, next int) int {
	begin := next
	for range count {
		before := begin
		begin = b.build(p, before)
		if begin == before {
			break
		}
	}
	return begin
}
