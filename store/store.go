// Package store: the states of a search, made as they are needed, and kept as
// long as there is room.
package store

import (
	"lineal/chars"
	"lineal/program"
)

// Store has states of a program, each with what is known of those that come
// behind it.
type Store struct {
	program *program.Program
	most    int
	states  []state
	numbers map[string]int // of the states, by their keys
}

type state struct {
	program.State
	next map[int]int // numbers of states, by groups of characters
}

// New makes a store for most states of a program, two at least: the one in which
// a search is, and the one to which it goes on.
func New(p *program.Program, most int) *Store {
	return &Store{program: p, most: most, numbers: map[string]int{}}
}

// Live tells how many states the store has.
func (s *Store) Live() int { return len(s.states) }

// Find tells whether the program matches somewhere in a text. It goes on to the
// text's end behind a match too: the store is to be emptied where that is asked,
// whatever was found.
func (s *Store) Find(text []chars.Letter, empties []int) bool {
	asked := marks(empties, len(text))
	if s.full() {
		s.empty()
	}
	now := s.number(s.program.First())
	for k, letter := range text {
		if asked[k] || s.full() {
			now = s.emptyAllBut(now)
		}
		now = s.after(now, letter.Char)
	}
	return s.program.MatchedAtEnd(s.states[now].State)
}

// marks tells for each number below count whether it is listed.
func marks(listed []int, count int) []bool {
	marked := make([]bool, count)
	for _, k := range listed {
		if k >= 0 && k < count {
			marked[k] = true
		}
	}
	return marked
}

// after tells the number of the state to which a character leads. There must be
// room for it.
func (s *Store) after(now int, char rune) int {
	group := s.program.Group(char)
	if next, known := s.states[now].next[group]; known {
		return next
	}
	next := s.number(s.program.After(s.states[now].State, char))
	s.states[now].next[group] = next
	return next
}

// number tells the number of a state, and adds it where the store has none alike.
func (s *Store) number(wanted program.State) int {
	key := wanted.Key()
	if number, known := s.numbers[key]; known {
		return number
	}
	number := len(s.states)
	s.states = append(s.states, state{State: wanted, next: map[int]int{}})
	s.numbers[key] = number
	return number
}

func (s *Store) full() bool { return len(s.states) >= s.most }

func (s *Store) empty() {
	s.states = nil
	clear(s.numbers)
}

// emptyAllBut empties the store, and begins it anew with the state of a search
// that is to go on.
func (s *Store) emptyAllBut(now int) int {
	kept := s.states[now].State
	s.empty()
	return s.number(kept)
}
