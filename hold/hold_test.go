package hold

import (
	"slices"
	"testing"

	"lineal/api"
	"lineal/document"
	"lineal/schema"
)

func check(t *testing.T, nodes []api.Node, schemas []api.Schema, want ...api.Failure) {
	t.Helper()
	tree, err := document.Read(nodes)
	if err != nil {
		t.Fatal(err)
	}
	rules, err := schema.Read(schemas)
	if err != nil {
		t.Fatal(err)
	}
	for range 2 {
		if got := Failures(tree, rules); !slices.Equal(got, want) {
			t.Errorf("%v against %v: %v, want %v", nodes, schemas, got, want)
		}
	}
}

var leaf = api.Schema{HasPattern: true, Pattern: "y", Format: 3, More: -1}

func TestRootAlone(t *testing.T) {
	check(t, []api.Node{{Kind: api.String, Parent: -1, Text: "x"}}, []api.Schema{leaf}, api.Failure{What: api.Pattern}, api.Failure{What: api.Format})
	check(t, []api.Node{{Kind: api.String, Parent: -1, Text: "y"}}, []api.Schema{leaf}, api.Failure{What: api.Format})
	check(t, []api.Node{{Kind: api.Number, Parent: -1}}, []api.Schema{leaf})
	check(t, []api.Node{{Kind: api.String, Parent: -1, Text: "x"}}, []api.Schema{{More: -1}, leaf})
}

// The last node is come to by 1 and by 2, and each tells something else of it.
func TestWaysThatMeet(t *testing.T) {
	nodes := []api.Node{{Kind: api.Object, Parent: -1}, {Kind: api.Object, Key: "o"}, {Kind: api.String, Parent: 1, Key: "s", Text: "x"}}
	schemas := []api.Schema{{Keys: []string{"o", ""}, Subs: []int{2, 1}, More: -1}, {Keys: []string{"s", "s"}, Subs: []int{3, 3}, More: -1}, {More: -1}, leaf}
	check(t, nodes, schemas, api.Failure{Node: 2, What: api.Pattern}, api.Failure{Node: 2, What: api.Format}, api.Failure{Node: 2, What: api.Extra})
	schemas[2].More = 3
	check(t, nodes, schemas, api.Failure{Node: 2, What: api.Pattern}, api.Failure{Node: 2, What: api.Format})
}

func TestListsEndTheWay(t *testing.T) {
	nodes := []api.Node{{Kind: api.Object, Parent: -1}, {Kind: api.List, Key: "l"}, {Kind: api.String, Parent: 1, Text: "x"}, {Kind: api.Object, Parent: 1}, {Kind: api.Null, Parent: 3, Key: "n"}}
	check(t, nodes, []api.Schema{{More: 1}, {More: 2}, leaf})
	check(t, nodes, []api.Schema{{More: -1}}, api.Failure{Node: 1, What: api.Extra})
}
