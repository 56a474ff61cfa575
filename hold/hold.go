// Package hold: documents held against schemas.
package hold

import (
	"lineal/api"
	"lineal/document"
	"lineal/schema"
)

// holder has what is known of each node.
type holder struct {
	nodes   []document.Node
	schemas []*schema.Schema
	known   []known
}

type known struct {
	against [api.MaxSchemas]bool // the schemas against which the node is held
	failed  [api.Extra + 1]bool  // by What
}

// Failures holds a document's root against the first schema, and tells all
// failures, each once, by the nodes' numbers, and those of one node by What.
// One pass is enough: a node's parent stands ahead of it, so that all it is held
// against is known when its turn comes, by however many ways it was come to.
func Failures(nodes []document.Node, schemas []*schema.Schema) []api.Failure {
	h := &holder{nodes: nodes, schemas: schemas, known: make([]known, len(nodes))}
	h.known[0].against[0] = true
	var failures []api.Failure
	for node := range nodes {
		h.holdAgainstAll(node)
		for what, failed := range h.known[node].failed {
			if failed {
				failures = append(failures, api.Failure{Node: node, What: what})
			}
		}
	}
	return failures
}

func (h *holder) holdAgainstAll(node int) {
	for number, s := range h.schemas {
		if !h.known[node].against[number] {
			continue
		}
		switch h.nodes[node].Kind {
		case api.String:
			h.holdString(node, s)
		case api.Object:
			h.holdChildren(node, s)
		}
	}
}

func (h *holder) holdString(node int, s *schema.Schema) {
	text := h.nodes[node].Text
	if !s.PatternPasses(text) {
		h.known[node].failed[api.Pattern] = true
	}
	if !s.FormatPasses(text) {
		h.known[node].failed[api.Format] = true
	}
}

func (h *holder) holdChildren(node int, s *schema.Schema) {
	for _, child := range h.nodes[node].Children {
		numbers, extra := s.ForChild(h.nodes[child].Key)
		for _, number := range numbers {
			h.known[child].against[number] = true
		}
		if extra {
			h.known[child].failed[api.Extra] = true
		}
	}
}
