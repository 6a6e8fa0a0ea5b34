package nodes

import (
	"fmt"
	"testing"
)

// TestNodes checks that what is made is read again.
func TestNodes(t *testing.T) {
	l := Levels{Last: 2}
	chain := l.Chain([]int{3, 1}, 1)
	if fmt.Sprint(chain) != "[{0 [{3 []} {0 [{1 []}]}]}]" || l.Label(chain[0], 1) != 3 {
		t.Errorf("Chain gives %v", chain)
	}
	children := l.Children(chain[0], 1)
	if len(children) != 1 || l.Label(children[0], 2) != 1 || l.Children(children[0], 2) != nil || len(l.Chain(nil, 1)) != 0 {
		t.Errorf("Children gives %v", children)
	}
}
