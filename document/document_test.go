package document

import (
	"errors"
	"slices"
	"testing"

	"lineal/api"
	"lineal/chars"
	"lineal/fault"
)

func textOf(letters []chars.Letter) string {
	var text []rune
	for _, letter := range letters {
		text = append(text, letter.Char)
	}
	return string(text)
}

func TestReadTakesAllOver(t *testing.T) {
	given := []api.Node{
		{Kind: api.Object, Parent: -1}, {Kind: api.List, Key: "lé"}, {Kind: api.String, Parent: 1, Text: "é"}, {Kind: api.Object, Key: ""},
		{Kind: api.Null, Parent: 1}, {Kind: api.String, Parent: 3, Key: "lé", Text: "😀x"}, {Kind: api.Number, Key: "n"},
	}
	children := [][]int{{1, 3, 6}, {2, 4}, nil, {5}, nil, nil, nil}
	nodes, err := Read(given)
	if err != nil || len(nodes) != len(given) {
		t.Fatalf("got %v, %v", nodes, err)
	}
	for i, node := range nodes {
		if node.Kind != given[i].Kind || textOf(node.Key) != given[i].Key || textOf(node.Text) != given[i].Text || !slices.Equal(node.Children, children[i]) {
			t.Errorf("node %d is %v", i, node)
		}
	}
}

func checkWrong(t *testing.T, given []api.Node, at int) {
	t.Helper()
	nodes, err := Read(given)
	var f *fault.Fault
	if nodes != nil || !errors.Is(err, fault.Tree) || !errors.As(err, &f) || f.At != at {
		t.Errorf("Read(%v) = %v, %v, want a fault at %d", given, nodes, err, at)
	}
}

func TestWrongNodes(t *testing.T) {
	checkWrong(t, nil, 0)
	checkWrong(t, make([]api.Node, api.MaxNodes+1), api.MaxNodes)
	root := api.Node{Kind: api.Object, Parent: -1}
	for _, node := range []api.Node{
		{Kind: 6}, {Kind: -1}, {Parent: -1}, {Parent: 1}, {Parent: 2}, {Key: "\xff"}, {Text: "a"}, {Kind: api.String, Text: "\xff"}, {Key: string(make([]byte, api.MaxText+1))}, {Kind: api.String, Text: string(make([]byte, api.MaxText+1))},
	} {
		checkWrong(t, []api.Node{root, node}, 1)
		checkWrong(t, []api.Node{root, node, {Kind: 9}}, 1)
	}
	checkWrong(t, []api.Node{root, {Key: "a"}, {Key: "b"}, {Key: "a"}}, 3)
	checkWrong(t, []api.Node{root, {Key: "a"}, {Parent: 1}}, 2)
	checkWrong(t, []api.Node{{Kind: api.List, Parent: -1}, {}, {}, {Key: "a"}}, 3)
	checkWrong(t, []api.Node{{Kind: api.Object, Parent: -1, Key: "a"}}, 0)
	checkWrong(t, []api.Node{{Kind: api.Object}}, 0)
}
