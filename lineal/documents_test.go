package lineal

import (
	"slices"
	"testing"

	"lineal/api"
)

// draw gives numbers that are the same in every run.
type draw uint32

func (d *draw) below(count int) int {
	*d = *d*1664525 + 1013904223
	return int(*d>>8) % count
}

func pick[T any](d *draw, list ...T) T { return list[d.below(len(list))] }

func (d *draw) nodes() nodeList {
	n := nodeList{node(pick(d, api.Object, api.Object, api.Object, api.Object, api.List, api.String, api.Null), -1, "")}
	for range d.below(14) {
		next := node(pick(d, api.Object, api.Object, api.String, api.String, api.String, api.List, api.Number), d.below(len(n)), pick(d, "", "a", "b", "ab", "ba", "é", "aa"))
		switch n[next.Parent].Kind {
		case api.List:
			next.Key = ""
		case api.Object:
			if slices.ContainsFunc(n[1:], func(o api.Node) bool { return o.Parent == next.Parent && o.Key == next.Key }) {
				continue
			}
		default:
			continue
		}
		if next.Kind == api.String {
			next.Text = pick(d, "", "a", "0b", "12:30", "a-b", "x@y", "é", "2024-01-01", "1.2.3.4")
		}
		n = append(n, next)
	}
	return n
}

func (d *draw) schemas() schemaList {
	s := make(schemaList, 1+d.below(api.MaxSchemas))
	for i := range s {
		s[i] = api.Schema{HasPattern: d.below(2) == 0, Pattern: pick(d, "", "a", "^a", `\d`, "b$", "[^]{5}", "[]"), Format: max(0, d.below(10)-3), More: -1 - d.below(2)}
		behind := len(s) - i - 1
		if behind == 0 {
			continue
		}
		if d.below(3) > 0 {
			s[i].More = i + 1 + d.below(behind)
		}
		for range d.below(api.MaxKeys + 1) {
			s[i].Keys = append(s[i].Keys, pick(d, "", "^a", "b$", "^$", "aa|bb", "^[^a]", `\w`, "[]", "^.$"))
			s[i].Subs = append(s[i].Subs, i+1+d.below(behind))
		}
	}
	return s
}

// somewhere goes by Ends, and not by the states of a finder.
func somewhere(t *testing.T, pattern, text string) bool {
	p := compiled(t, pattern)
	for from := range len([]rune(text)) + 1 {
		if ends, _, _ := p.Ends(text, from); len(ends) > 0 {
			return true
		}
	}
	return false
}

// heldByWords goes every way that the document's words tell, again and again, and
// tells each failure that there is to tell.
func heldByWords(t *testing.T, n nodeList, s schemaList, number, rule int, tell func(api.Failure)) {
	formats := texts{"", `^\d{4}-\d{2}-\d{2}$`, `^\d{2}:\d{2}(:\d{2})?$`, "^[0-9a-fA-F]+$", `^(\d{1,3}\.){3}\d{1,3}$`, `^[^@\s]+@[^@\s]+$`, `^\w+(-\w+)*$`}
	held := s[rule]
	if n[number].Kind == api.String && held.HasPattern && !somewhere(t, held.Pattern, n[number].Text) {
		tell(noPattern(number))
	}
	if n[number].Kind == api.String && !somewhere(t, formats[held.Format], n[number].Text) {
		tell(noFormat(number))
	}
	if n[number].Kind != api.Object {
		return
	}
	for child := range n {
		if n[child].Parent != number {
			continue
		}
		matched := false
		for k, key := range held.Keys {
			if somewhere(t, key, n[child].Key) {
				matched = true
				heldByWords(t, n, s, child, held.Subs[k], tell)
			}
		}
		if !matched && held.More == -1 {
			tell(isExtra(child))
		}
		if !matched && held.More >= 0 {
			heldByWords(t, n, s, child, held.More, tell)
		}
	}
}

func TestDocumentsByTheirWords(t *testing.T) {
	d := new(draw)
	count := map[int]int{}
	for range 3000 {
		n, s := d.nodes(), d.schemas()
		told := map[api.Failure]bool{}
		heldByWords(t, n, s, 0, 0, func(f api.Failure) { told[f] = true })
		var want failures
		for number := range n {
			for what := api.Pattern; what <= api.Extra; what++ {
				if f := (api.Failure{Node: number, What: what}); told[f] {
					want = append(want, f)
					count[what]++
				}
			}
		}
		checkFailures(t, n, s, want...)
	}
	for what := api.Pattern; what <= api.Extra; what++ {
		if count[what] < 100 {
			t.Errorf("only %d failures are %d", count[what], what)
		}
	}
}
