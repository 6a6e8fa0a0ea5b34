package aged

import (
	"fmt"
	"testing"
)

// TestTokens checks that what is made is read again.
func TestTokens(t *testing.T) {
	c := Config(1, [][2]int{{0, 2}, {1, 0}})
	if fmt.Sprint(c) != "{0 [{1 []} {0 [{0 [{0 []} {2 []}]} {0 [{1 []} {0 []}]}]}]}" || fmt.Sprint(Tokens(c)) != "[[0 2] [1 0]]" {
		t.Errorf("Config gives %v", c)
	}
}
