package lineal

import (
	"fmt"
	"math"
	"reflect"
	"slices"
	"strings"
	"testing"

	"lineal/api"
)

type (
	nodeList   = []api.Node
	schemaList = []api.Schema
	failures   = []api.Failure
)

func node(kind, parent int, key string) api.Node {
	return api.Node{Kind: kind, Parent: parent, Key: key}
}

func stringNode(parent int, key, text string) api.Node {
	return api.Node{Kind: api.String, Parent: parent, Key: key, Text: text}
}

// object has one child for each key, a string with that text.
func object(text string, keys ...string) nodeList {
	n := nodeList{node(api.Object, -1, "")}
	for _, key := range keys {
		n = append(n, stringNode(0, key, text))
	}
	return n
}

// free asks for nothing.
func free() api.Schema { return api.Schema{More: -2} }

// asking asks for a pattern, and leaves children alone.
func asking(pattern string) api.Schema {
	return api.Schema{HasPattern: true, Pattern: pattern, More: -2}
}

// keyed sends children on: subs[k] is for those whose keys match keys[k].
func keyed(more int, keys []string, subs ...int) api.Schema {
	return api.Schema{Keys: keys, Subs: subs, More: more}
}

func noPattern(number int) api.Failure { return api.Failure{Node: number, What: api.Pattern} }
func noFormat(number int) api.Failure  { return api.Failure{Node: number, What: api.Format} }
func isExtra(number int) api.Failure   { return api.Failure{Node: number, What: api.Extra} }

// call tells what was asked, cut where it is long.
func call(n nodeList, s schemaList) string {
	return fmt.Sprintf("Validate(%.400s, %.400s)", fmt.Sprintf("%#v", n), fmt.Sprintf("%#v", s))
}

func copied(s schemaList) schemaList {
	s = slices.Clone(s)
	for i := range s {
		s[i].Keys, s[i].Subs = slices.Clone(s[i].Keys), slices.Clone(s[i].Subs)
	}
	return s
}

// checkFailures asks twice, since nothing may hang on what was asked before, and
// looks whether what was handed in is as it was.
func checkFailures(t *testing.T, n nodeList, s schemaList, want ...api.Failure) {
	t.Helper()
	nodesBefore, schemasBefore := slices.Clone(n), copied(s)
	for range 2 {
		got, e, at := Validate(n, s)
		if !slices.Equal(got, want) || e != api.OK || at != 0 {
			t.Errorf("P11: %s = %v, %d, %d, want %v", call(n, s), got, e, at, want)
		}
	}
	if !slices.Equal(n, nodesBefore) || !reflect.DeepEqual(s, schemasBefore) {
		t.Errorf("P2: %s has written into these", call(nodesBefore, schemasBefore))
	}
}

func checkRefused(t *testing.T, n nodeList, s schemaList, want api.Errno, place int) {
	t.Helper()
	for range 2 {
		got, e, at := Validate(n, s)
		if got != nil || e != want || at != place {
			t.Errorf("P11: %s = %v, %d, %d, want %d, %d", call(n, s), got, e, at, want, place)
		}
	}
}

// checkTree looks at nodes that are no document: whatever the schemas are.
func checkTree(t *testing.T, n nodeList, place int) {
	t.Helper()
	for _, s := range []schemaList{{free()}, nil, {free(), {More: 1}}, {asking("*")}, make(schemaList, api.MaxSchemas+1)} {
		checkRefused(t, n, s, api.ErrTree, place)
	}
}

func checkSchema(t *testing.T, s schemaList, place int) {
	t.Helper()
	for _, n := range []nodeList{{node(api.Object, -1, "")}, {stringNode(-1, "", "a")}, object("a", "a", "b")} {
		checkRefused(t, n, s, api.ErrSchema, place)
	}
}

func TestValidateExample(t *testing.T) {
	n := nodeList{node(api.Object, -1, ""), stringNode(0, "id", "x9"), node(api.Number, 0, "zz")}
	s := schemaList{keyed(-1, []string{"^id$"}, 1), asking(`^\d+$`)}
	checkFailures(t, n, s, noPattern(1), isExtra(2))
	n[1].Text = "99"
	checkFailures(t, n, s, isExtra(2))
	checkFailures(t, n[:2], s)
	s[0].More = -2
	checkFailures(t, n, s)
	s[0].More = 1
	checkFailures(t, n, s)
	n[2] = stringNode(0, "zz", "y")
	checkFailures(t, n, s, noPattern(2))
}

func TestPatternsOfSchemas(t *testing.T) {
	for _, c := range []struct {
		pattern       string
		passed, fails []string
	}{
		{"b", texts{"b", "abc", "ab"}, texts{"", "a", "B"}},
		{"^b$", texts{"b"}, texts{"", "ab", "bc", "b\n"}},
		{"", texts{"", "a", "😀"}, nil},
		{"^$", texts{""}, texts{"a"}},
		{"[]", nil, texts{"", "a"}},
		{"^[^]$", texts{"😀", "\n"}, texts{"", "ab"}},
		{`\uD83D`, nil, texts{"😀", ""}},
		{`\bé`, texts{"aé"}, texts{"é", " é"}},
		{"a{100}b", texts{strings.Repeat("a", 399) + "b"}, texts{strings.Repeat("a", api.MaxText)}},
		{strings.Repeat("a|", 99) + "ab", texts{"a"}, texts{"b"}},
	} {
		for _, text := range c.passed {
			checkFailures(t, nodeList{stringNode(-1, "", text)}, schemaList{asking(c.pattern)})
		}
		for _, text := range c.fails {
			checkFailures(t, nodeList{stringNode(-1, "", text)}, schemaList{asking(c.pattern)}, noPattern(0))
		}
	}
}

func TestFormatsOfSchemas(t *testing.T) {
	for f, c := range []struct{ passed, fails []string }{
		{texts{"", "?", "2024-01-01"}, nil},
		{texts{"2024-02-30", "0000-99-99"}, texts{"", "2024-2-30", "24-02-30", "x2024-02-30", "2024-02-30x", "2024-02-300", "12024-02-30", "2024-02-30\n", "2024/02/30", "２024-02-30"}},
		{texts{"12:30", "99:99", "12:30:59"}, texts{"", "1:30", "12:3", "12:30:", "12:30:5", "12:30:591", "12:30:59:59", "a12:30", "12:30 "}},
		{texts{"0", "dEadBEEF0", "abcdef", "ABCDEF0123456789"}, texts{"", "g", "0x1", "a f", "G", "@", "`", "é"}},
		{texts{"1.2.3.4", "1.22.333.444", "999.999.999.999"}, texts{"", "1.2.3", "1.2.3.", ".1.2.3", "1.2.3.4.5", "1.2.3.4444", "1111.2.3.4", "1..2.3", "1a2a3a4", "1.2.3.4 "}},
		{texts{"a@b", "é@😀", "a.b@c-d", "\x00@\x01"}, texts{"", "@", "a@", "@b", "a b@c", "a@b c", "a@@b", "a@b@c", "a@b\n", "\u00a0a@b", "a@\u3000b", "ab"}},
		{texts{"a", "_", "a-b_1-c", "0-9-Z"}, texts{"", "-", "-a", "a-", "a--b", "é", "a b", "a-é", "a\n"}},
	} {
		for _, text := range c.passed {
			checkFailures(t, nodeList{stringNode(-1, "", text)}, schemaList{{Format: f, More: -2}})
		}
		for _, text := range c.fails {
			checkFailures(t, nodeList{stringNode(-1, "", text)}, schemaList{{Format: f, More: -2}}, noFormat(0))
		}
	}
}

func TestPatternAndFormatOfOneSchema(t *testing.T) {
	s := schemaList{{HasPattern: true, Pattern: "a", Format: 3, More: -1}}
	checkFailures(t, nodeList{stringNode(-1, "", "0a1")}, s)
	checkFailures(t, nodeList{stringNode(-1, "", "01")}, s, noPattern(0))
	checkFailures(t, nodeList{stringNode(-1, "", "xa")}, s, noFormat(0))
	checkFailures(t, nodeList{stringNode(-1, "", "x")}, s, noPattern(0), noFormat(0))
	checkFailures(t, nodeList{stringNode(-1, "", "")}, s, noPattern(0), noFormat(0))
	s[0].HasPattern = false
	checkFailures(t, nodeList{stringNode(-1, "", "x")}, s, noFormat(0))
}

func TestOtherNodesPassPatternsAndFormats(t *testing.T) {
	s := schemaList{{HasPattern: true, Pattern: "[]", Format: 3, More: -1}}
	for _, kind := range []int{api.Null, api.Bool, api.Number, api.List, api.Object} {
		checkFailures(t, nodeList{node(kind, -1, "")}, s)
		n := nodeList{node(api.Object, -1, ""), node(kind, 0, "a")}
		checkFailures(t, n, append(schemaList{{More: 1}}, s...))
		checkFailures(t, n, s, isExtra(1))
	}
}

func TestChildrenByTheirKeys(t *testing.T) {
	n := object("x", "id", "idx", "", "é", "no")
	for _, c := range []struct {
		keys []string
		want failures
	}{
		{nil, nil}, {texts{"^id$"}, failures{noPattern(1)}}, {texts{"id"}, failures{noPattern(1), noPattern(2)}}, {texts{"^$"}, failures{noPattern(3)}}, {texts{""}, failures{noPattern(1), noPattern(2), noPattern(3), noPattern(4), noPattern(5)}},
		{texts{"^[^]$", "o"}, failures{noPattern(4), noPattern(5)}}, {texts{"[]"}, nil}, {texts{"^..$"}, failures{noPattern(1), noPattern(5)}}, {texts{"x", "x", "x"}, failures{noPattern(2)}},
	} {
		subs := slices.Repeat([]int{1}, len(c.keys))
		checkFailures(t, n, schemaList{keyed(-2, c.keys, subs...), asking("[]")}, c.want...)
	}
}

func TestChildrenWhoseKeysNoneMatch(t *testing.T) {
	n := object("x", "a", "b", "")
	both := failures{isExtra(2), isExtra(3)}
	checkFailures(t, n, schemaList{keyed(-2, texts{"a"}, 1), free()})
	checkFailures(t, n, schemaList{keyed(-1, texts{"a"}, 1), free()}, both...)
	checkFailures(t, n, schemaList{keyed(-1, nil)}, isExtra(1), isExtra(2), isExtra(3))
	checkFailures(t, n, schemaList{keyed(1, texts{"a"}, 2), asking("y"), free()}, noPattern(2), noPattern(3))
	checkFailures(t, n, schemaList{keyed(2, texts{"a"}, 1), asking("y"), free()}, noPattern(1))
	checkFailures(t, n, schemaList{keyed(1, texts{"a"}, 1), asking("y")}, noPattern(1), noPattern(2), noPattern(3))
	// one that is matched is not held against More too
	checkFailures(t, n, schemaList{keyed(1, texts{""}, 2), asking("y"), free()})
	// an extra child is held against nothing
	checkFailures(t, append(n, node(api.Object, 0, "o"), stringNode(4, "q", "")), schemaList{keyed(-1, texts{"^.?$"}, 1), keyed(-1, nil)}, isExtra(5))
	checkFailures(t, append(n, node(api.Object, 0, "oo"), stringNode(4, "q", "")), schemaList{keyed(-1, texts{"^.?$"}, 1), keyed(-1, nil)}, isExtra(4))
}

func TestAChildHeldAgainstSeveralSchemas(t *testing.T) {
	n := object("x", "ab", "b")
	s := schemaList{keyed(-1, texts{"a", "b", "^ab$"}, 1, 2, 3), asking("y"), {Format: 3, More: -2}, asking("z")}
	checkFailures(t, n, s, noPattern(1), noFormat(1), noFormat(2))
	s[1].Pattern = "x"
	checkFailures(t, n, s, noPattern(1), noFormat(1), noFormat(2))
	s[3].Pattern = "x"
	checkFailures(t, n, s, noFormat(1), noFormat(2))
	// by its two ways to a schema
	n = nodeList{node(api.Object, -1, ""), node(api.Object, 0, "ab"), stringNode(1, "c", "x"), stringNode(1, "d", "x")}
	s = schemaList{keyed(-2, texts{"a", "b"}, 1, 2), keyed(-1, texts{"c"}, 3), keyed(-1, texts{"d"}, 3), {HasPattern: true, Pattern: "y", Format: 3, More: -2}}
	checkFailures(t, n, s, noPattern(2), noFormat(2), isExtra(2), noPattern(3), noFormat(3), isExtra(3))
	s[1].Keys, s[2].Keys = texts{""}, texts{""}
	checkFailures(t, n, s, noPattern(2), noFormat(2), noPattern(3), noFormat(3))
	s[0] = keyed(1, texts{"q"}, 2)
	s[1] = keyed(2, texts{"^c"}, 3)
	checkFailures(t, n, s, noPattern(2), noFormat(2))
}

func TestFailuresStandByNodesAndWhat(t *testing.T) {
	n := nodeList{
		node(api.Object, -1, ""), stringNode(0, "z", "-"), node(api.Object, 0, "o"), stringNode(0, "a", "-"), stringNode(2, "z", "-"),
		node(api.Object, 2, "o"), stringNode(0, "b", "-"), stringNode(5, "z", "-"), stringNode(2, "a", "-"), stringNode(0, "y", "-"),
	}
	leaf := api.Schema{HasPattern: true, Pattern: "x", Format: 6, More: -2}
	checkFailures(t, n, schemaList{keyed(4, texts{"o"}, 1), keyed(4, texts{"o"}, 2), keyed(-1, nil), free(), leaf},
		noPattern(1), noFormat(1), noPattern(3), noFormat(3), noPattern(4), noFormat(4), noPattern(6), noFormat(6), isExtra(7), noPattern(8), noFormat(8), noPattern(9), noFormat(9))
	checkFailures(t, n, schemaList{keyed(2, texts{"[oz]"}, 1), keyed(-1, texts{"[oa]"}, 2), leaf},
		noPattern(3), noFormat(3), isExtra(4), noPattern(6), noFormat(6), noPattern(8), noFormat(8), noPattern(9), noFormat(9))
}

func TestNothingIsAskedOfAListsChildren(t *testing.T) {
	n := nodeList{node(api.List, -1, ""), stringNode(0, "", "x"), node(api.Object, 0, ""), stringNode(2, "a", "x"), node(api.List, 0, ""), stringNode(4, "", "x")}
	for _, s := range []schemaList{
		{{HasPattern: true, Pattern: "y", Format: 3, More: -1}}, {{More: 1}, {HasPattern: true, Pattern: "y", Format: 3, More: -1}}, {keyed(-1, texts{"", "^$"}, 1, 1), {HasPattern: true, Pattern: "y", Format: 3, More: -1}},
	} {
		checkFailures(t, n, s)
	}
	n = nodeList{node(api.Object, -1, ""), node(api.List, 0, "l"), stringNode(1, "", "x"), node(api.Object, 1, ""), stringNode(3, "a", "x"), stringNode(0, "a", "x")}
	checkFailures(t, n, schemaList{{More: 1}, {HasPattern: true, Pattern: "y", Format: 3, More: -1}}, noPattern(5), noFormat(5))
}

// There are 6 ways from each node to the next: too many in all to go every one.
func TestManyWays(t *testing.T) {
	n := nodeList{node(api.Object, -1, "")}
	for len(n) < api.MaxSchemas-1 {
		n = append(n, node(api.Object, len(n)-1, "o"))
	}
	for len(n) < api.MaxNodes {
		n = append(n, stringNode(api.MaxSchemas-2, strings.Repeat("k", len(n)), "x"))
	}
	var s schemaList
	for next := 1; next < api.MaxSchemas; next++ {
		s = append(s, keyed(-1, make([]string, api.MaxKeys), slices.Repeat([]int{next}, api.MaxKeys)...))
	}
	s = append(s, asking("y"))
	var want failures
	for number := api.MaxSchemas - 1; number < api.MaxNodes; number++ {
		want = append(want, noPattern(number))
	}
	checkFailures(t, n, s, want...)
}

func TestHowManyNodes(t *testing.T) {
	checkTree(t, nil, 0)
	checkTree(t, nodeList{}, 0)
	most := nodeList{node(api.List, -1, "")}
	for len(most) < api.MaxNodes {
		most = append(most, node(api.Null, 0, ""))
	}
	checkFailures(t, most[:1], schemaList{free()})
	checkFailures(t, most, schemaList{free()})
	checkTree(t, append(most, most[1]), api.MaxNodes)
	checkTree(t, make(nodeList, api.MaxNodes+1), api.MaxNodes)
	checkTree(t, make(nodeList, 1_000_000), api.MaxNodes)
	checkTree(t, append(nodeList{node(-1, 7, "\xff")}, most...), api.MaxNodes)
	most[api.MaxNodes-1].Kind = 6
	checkTree(t, most, api.MaxNodes-1)
}

func TestRoots(t *testing.T) {
	for kind := api.Null; kind <= api.Object; kind++ {
		checkFailures(t, nodeList{node(kind, -1, "")}, schemaList{free()})
		for _, parent := range []int{0, 1, -2, math.MinInt, math.MaxInt} {
			checkTree(t, nodeList{node(kind, parent, "")}, 0)
			checkTree(t, nodeList{node(kind, parent, ""), node(api.Object, -1, "")}, 0)
		}
		checkTree(t, nodeList{node(kind, -1, "a")}, 0)
		checkTree(t, nodeList{node(kind, -1, "\xff")}, 0)
	}
	for _, kind := range []int{-1, 6, 7, math.MinInt, math.MaxInt, 1<<32 + api.Object} {
		checkTree(t, nodeList{node(kind, -1, "")}, 0)
		checkTree(t, nodeList{node(api.Object, -1, ""), node(kind, 0, "a")}, 1)
		checkTree(t, nodeList{node(api.List, -1, ""), node(kind, 0, "")}, 1)
	}
}

func TestParents(t *testing.T) {
	for kind := api.Null; kind <= api.String; kind++ {
		checkTree(t, nodeList{node(kind, -1, ""), node(api.Null, 0, "")}, 1)
		checkTree(t, nodeList{node(api.Object, -1, ""), node(kind, 0, "a"), node(api.Null, 1, "")}, 2)
		checkTree(t, nodeList{node(api.Object, -1, ""), node(kind, 0, "a"), node(api.Null, 1, "b")}, 2)
	}
	for _, parent := range []int{-1, -2, 2, 3, 4, 40, math.MinInt, math.MaxInt} {
		n := nodeList{node(api.Object, -1, ""), node(api.List, 0, "a"), node(api.Object, parent, ""), node(api.Object, 0, "c")}
		checkTree(t, n, 2)
	}
	checkTree(t, nodeList{node(api.Object, -1, ""), node(api.Object, 1, "a")}, 1)
	checkTree(t, nodeList{node(api.Object, -1, ""), node(api.Object, 2, "a"), node(api.Object, 0, "b")}, 1)
	checkFailures(t, nodeList{node(api.List, -1, ""), node(api.Object, 0, ""), node(api.List, 1, "a"), node(api.Null, 2, ""), node(api.Null, 1, "b"), node(api.Null, 0, "")}, schemaList{free()})
}

func TestKeys(t *testing.T) {
	long := strings.Repeat("a", api.MaxText)
	for _, key := range []string{"", "a", "é", "\x00", long, strings.Repeat("é", api.MaxText/2), "^$"} {
		checkFailures(t, nodeList{node(api.Object, -1, ""), node(api.Null, 0, key)}, schemaList{free()})
		checkFailures(t, nodeList{node(api.Object, -1, ""), node(api.Null, 0, key)}, schemaList{keyed(-1, texts{""}, 1), free()})
		checkFailures(t, nodeList{node(api.Object, -1, ""), node(api.Null, 0, key)}, schemaList{keyed(-1, texts{"[]"}, 1), free()}, isExtra(1))
		if key != "" {
			checkTree(t, nodeList{node(api.List, -1, ""), node(api.Null, 0, key)}, 1)
		}
	}
	for _, key := range []string{long + "a", long[1:] + "é", long + long, "\xff", "a\xc3", "\xed\xa0\x80", "\xc0\x80", "\xf4\x90\x80\x80", long[1:] + "\x80"} {
		for _, kind := range []int{api.Null, api.String, api.Object} {
			checkTree(t, nodeList{node(api.Object, -1, ""), node(kind, 0, key)}, 1)
			checkTree(t, nodeList{node(api.List, -1, ""), node(kind, 0, key)}, 1)
		}
	}
}

func TestKeysOfOneParentAreNotAlike(t *testing.T) {
	for _, key := range []string{"", "a", "é", strings.Repeat("a", api.MaxText)} {
		n := nodeList{node(api.Object, -1, ""), node(api.Null, 0, "b"), node(api.Null, 0, key), node(api.Object, 0, "c"), node(api.Null, 3, key), node(api.Null, 0, "d")}
		checkFailures(t, n, schemaList{free()})
		checkTree(t, append(n, node(api.String, 0, key)), 6)
		checkTree(t, append(n, node(api.Null, 3, key)), 6)
		checkFailures(t, append(n, node(api.Null, 3, "b")), schemaList{free()})
	}
	checkTree(t, nodeList{node(api.Object, -1, ""), node(api.Null, 0, ""), node(api.Null, 0, "")}, 2)
	checkFailures(t, nodeList{node(api.Object, -1, ""), node(api.Null, 0, "")}, schemaList{free()})
	checkFailures(t, nodeList{node(api.Object, -1, ""), node(api.Null, 0, "a"), node(api.Null, 0, "A"), node(api.Null, 0, "á"), node(api.Null, 0, "a\u0301")}, schemaList{free()})
	checkFailures(t, nodeList{node(api.List, -1, ""), node(api.Null, 0, ""), node(api.Null, 0, "")}, schemaList{free()})
}

func TestTexts(t *testing.T) {
	long := strings.Repeat("a", api.MaxText)
	for _, text := range []string{"", "a", "é", long, strings.Repeat("é", api.MaxText/2)} {
		checkFailures(t, nodeList{stringNode(-1, "", text)}, schemaList{free()})
		checkFailures(t, nodeList{node(api.List, -1, ""), stringNode(0, "", text)}, schemaList{free()})
		checkFailures(t, nodeList{stringNode(-1, "", text)}, schemaList{asking("[]")}, noPattern(0))
	}
	for _, text := range []string{"a", " ", "\x00", "\xff", long + "a"} {
		for _, kind := range []int{api.Null, api.Bool, api.Number, api.List, api.Object} {
			checkTree(t, nodeList{{Kind: kind, Parent: -1, Text: text}}, 0)
			checkTree(t, nodeList{node(api.Object, -1, ""), {Kind: kind, Key: "a", Text: text}}, 1)
		}
	}
	for _, text := range []string{long + "a", long[1:] + "é", "\xff", "a\xc3", "\xed\xa0\x80", "a\xe2\x82", long[1:] + "\x80"} {
		checkTree(t, nodeList{stringNode(-1, "", text)}, 0)
		checkTree(t, nodeList{node(api.List, -1, ""), node(api.Null, 0, ""), stringNode(0, "", text)}, 2)
	}
}

func TestTheFirstWrongNodeCounts(t *testing.T) {
	n := nodeList{node(api.Object, -1, ""), node(api.Null, 0, "a"), node(api.Null, 0, "b"), node(api.Null, 0, "a"), stringNode(0, "c", "\xff"), node(9, 0, "d"), node(api.Null, 8, "e")}
	for _, place := range []int{3, 4, 5, 6} {
		checkTree(t, n, place)
		n[place] = node(api.Null, 0, strings.Repeat("r", place))
	}
	checkFailures(t, n, schemaList{free()})
}

func TestHowManySchemas(t *testing.T) {
	checkSchema(t, nil, 0)
	checkSchema(t, schemaList{}, 0)
	most := slices.Repeat(schemaList{free()}, api.MaxSchemas)
	for count := 1; count <= api.MaxSchemas; count++ {
		checkFailures(t, nodeList{node(api.Null, -1, "")}, most[:count])
	}
	checkSchema(t, append(slices.Clone(most), free()), api.MaxSchemas)
	checkSchema(t, make(schemaList, api.MaxSchemas+1), api.MaxSchemas)
	checkSchema(t, make(schemaList, 1_000_000), api.MaxSchemas)
	checkSchema(t, append(schemaList{asking("*")}, most...), api.MaxSchemas)
	most[api.MaxSchemas-1].More = 0
	checkSchema(t, most, api.MaxSchemas-1)
}

func TestSubsAndMoreNameSchemasBehind(t *testing.T) {
	for _, more := range []int{math.MinInt, -1 << 32, -100, -4, -3, 0, 1, 4, 5, 8, math.MaxInt, 1<<32 + 2} {
		checkSchema(t, schemaList{free(), {More: more}, free(), free()}, 1)
	}
	for _, sub := range []int{math.MinInt, -3, -2, -1, 0, 1, 4, 5, 8, math.MaxInt, 1<<32 + 2} {
		checkSchema(t, schemaList{free(), keyed(-2, texts{"a"}, sub), free(), free()}, 1)
		checkSchema(t, schemaList{free(), keyed(-2, texts{"a", "b", "c"}, 2, 3, sub), free(), free()}, 1)
		checkSchema(t, schemaList{free(), keyed(-2, texts{"a", "b", "c"}, sub, 2, 3), free(), free()}, 1)
	}
	for _, more := range []int{-2, -1, 2, 3} {
		for _, sub := range []int{2, 3} {
			checkFailures(t, nodeList{node(api.Object, -1, "")}, schemaList{free(), keyed(more, texts{"a", "b"}, sub, 2), free(), free()})
		}
	}
	checkSchema(t, schemaList{{}}, 0)
	checkSchema(t, schemaList{{More: 1}}, 0)
	checkSchema(t, schemaList{{More: 1}, {More: 2}}, 1)
	checkFailures(t, object("x", "a"), schemaList{{More: 1}, {More: -1}})
}

func TestFormatsThatAreNone(t *testing.T) {
	for _, f := range []int{-1, 7, 8, math.MinInt, math.MaxInt, 1 << 32} {
		checkSchema(t, schemaList{{Format: f, More: -2}}, 0)
		checkSchema(t, schemaList{free(), free(), {Format: f, More: -2}}, 2)
	}
	for f := range 7 {
		checkFailures(t, nodeList{node(api.Null, -1, "")}, schemaList{free(), {Format: f, More: -2}})
	}
}

func TestHowManyKeys(t *testing.T) {
	for count := range api.MaxKeys + 1 {
		all := make([]string, count)
		subs := slices.Repeat([]int{1}, count)
		checkFailures(t, object("x"), schemaList{keyed(-1, all, subs...), free()})
		checkSchema(t, schemaList{keyed(-1, all, append(subs, 1)...), free()}, 0)
		checkSchema(t, schemaList{keyed(-1, append(all, ""), subs...), free()}, 0)
	}
	for _, count := range []int{api.MaxKeys + 1, 100, 1_000_000} {
		checkSchema(t, schemaList{keyed(-1, make([]string, count), slices.Repeat([]int{1}, count)...), free()}, 0)
	}
	// the last of the keys counts too
	checkFailures(t, object("x", "a", "f", "g"), schemaList{keyed(-1, texts{"a", "b", "c", "d", "e", "f"}, 1, 1, 1, 1, 1, 2), free(), asking("y")}, noPattern(2), isExtra(3))
}

func TestPatternsThatCompileDoesNotTake(t *testing.T) {
	for _, pattern := range []string{"*", "(", "a)", "a{2,1}", "a{101}", "(?=a)", `\1`, "[b-a]", nested(api.MaxDepth+1, ""), "(a{100}){3}", "\xff", "a\xc3", strings.Repeat("a", api.MaxPattern+1), strings.Repeat("a", 1_000_000)} {
		if _, e, _ := Compile(pattern); e == api.OK {
			t.Fatalf("Compile takes %q", pattern)
		}
		checkSchema(t, schemaList{asking(pattern)}, 0)
		checkSchema(t, schemaList{free(), asking(pattern), free()}, 1)
		checkSchema(t, schemaList{keyed(-2, texts{pattern}, 1), free()}, 0)
		checkSchema(t, schemaList{free(), keyed(-2, texts{"a", "b", pattern}, 2, 2, 2), free()}, 1)
		checkSchema(t, schemaList{keyed(-2, texts{pattern, "a"}, 1, 1), free()}, 0)
		// a Pattern that it has not: nobody looks at it
		checkFailures(t, nodeList{stringNode(-1, "", "a")}, schemaList{{Pattern: pattern, More: -2}})
		checkFailures(t, object("x", "a"), schemaList{{Pattern: pattern, More: 1}, {Pattern: pattern, Format: 3, More: -2}}, noFormat(1))
	}
	for _, pattern := range []string{"", strings.Repeat("a", api.MaxPattern), nested(api.MaxDepth, "a"), "a{100}a{100}a{99}"} {
		checkFailures(t, nodeList{node(api.Null, -1, "")}, schemaList{asking(pattern)})
		checkFailures(t, nodeList{node(api.Null, -1, "")}, schemaList{keyed(-2, texts{pattern}, 1), free()})
	}
	checkFailures(t, nodeList{stringNode(-1, "", "a")}, schemaList{{Pattern: "b", More: -2}})
}

func TestTheFirstWrongSchemaCounts(t *testing.T) {
	s := schemaList{free(), asking("("), {Format: 9, More: -2}, {More: 2}, keyed(-2, texts{"a"}), keyed(-2, texts{"["}, 6), free()}
	for _, place := range []int{1, 2, 3, 4, 5} {
		checkSchema(t, s, place)
		s[place] = free()
	}
	checkFailures(t, nodeList{node(api.Null, -1, "")}, s)
	// schemas that no node is held against are looked at too
	checkSchema(t, schemaList{free(), free(), asking("(")}, 2)
	checkSchema(t, schemaList{keyed(-2, texts{"*"}, 7), {More: 0}}, 0)
}

func TestListsThatCameInAreNotKept(t *testing.T) {
	n := slices.Grow(object("x", "a", "b"), 3)
	s := slices.Grow(schemaList{keyed(-1, slices.Grow(texts{"a"}, 2), slices.Grow([]int{1}, 2)...), asking("y")}, 2)
	behind := func() any {
		return []any{slices.Clone(n[:cap(n)]), slices.Clone(s[:cap(s)]), slices.Clone(s[0].Keys[:cap(s[0].Keys)]), slices.Clone(s[0].Subs[:cap(s[0].Subs)])}
	}
	before := behind()
	first, _, _ := Validate(n, s)
	if !reflect.DeepEqual(before, behind()) {
		t.Errorf("P2: written into, or behind: %v", behind())
	}
	want := failures{noPattern(1), isExtra(2)}
	for i := range n {
		n[i] = node(9, 9, "q")
	}
	s[0].Keys[0], s[0].Subs[0] = "*", 9
	clear(s)
	if !slices.Equal(first, want) {
		t.Errorf("P2: %v has changed with what was handed in", first)
	}
}

func TestFailuresAreTheCallers(t *testing.T) {
	n, s := object("x", "a", "b", "c"), schemaList{keyed(-1, texts{"a"}, 1), asking("y")}
	want := failures{noPattern(1), isExtra(2), isExtra(3)}
	first, _, _ := Validate(n, s)
	second, _, _ := Validate(n, s)
	for i := range first[:cap(first)] {
		first[:cap(first)][i] = api.Failure{Node: -7, What: -7}
	}
	if !slices.Equal(second, want) {
		t.Errorf("P2: two answers share memory: %v", second)
	}
	checkFailures(t, n, s, want...)
}
