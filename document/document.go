// Package document: nodes that make a document, read into their characters.
package document

import (
	"slices"

	"lineal/api"
	"lineal/chars"
	"lineal/fault"
)

// Node is one of a document.
type Node struct {
	Kind     int
	Key      []chars.Letter
	Text     []chars.Letter
	Children []int // numbers of nodes, rising
}

// noParent is what the root has in place of a parent's number.
const noParent = -1

// Read reads a document, or tells the first of the nodes that can't be one.
func Read(given []api.Node) ([]Node, error) {
	if len(given) == 0 {
		return nil, fault.New(fault.Tree, 0)
	}
	if len(given) > api.MaxNodes {
		return nil, fault.New(fault.Tree, api.MaxNodes)
	}
	nodes := make([]Node, len(given))
	for number := range given {
		if !fits(given, number) || !nodes[number].read(given[number]) {
			return nil, fault.New(fault.Tree, number)
		}
		if number > 0 {
			parent := &nodes[given[number].Parent]
			parent.Children = append(parent.Children, number)
		}
	}
	return nodes, nil
}

// fits tells whether a node may stand where it does, behind others that are right.
func fits(nodes []api.Node, number int) bool {
	node := nodes[number]
	if node.Kind < api.Null || node.Kind > api.Object {
		return false
	}
	if node.Text != "" && node.Kind != api.String {
		return false
	}
	if number == 0 {
		return node.Parent == noParent && node.Key == ""
	}
	if node.Parent < 0 || node.Parent >= number {
		return false
	}
	switch nodes[node.Parent].Kind {
	case api.List:
		return node.Key == ""
	case api.Object:
		return !slices.ContainsFunc(nodes[1:number], func(other api.Node) bool {
			return other.Parent == node.Parent && other.Key == node.Key
		})
	}
	return false
}

// read takes over what a node has, and tells whether its key and its text are texts.
func (n *Node) read(given api.Node) bool {
	key, keyErr := chars.Letters(given.Key, api.MaxText)
	text, textErr := chars.Letters(given.Text, api.MaxText)
	n.Kind, n.Key, n.Text = given.Kind, key, text
	return keyErr == nil && textErr == nil
}
