package token

import (
	"fmt"
	"strings"
	"testing"

	"coverability/api"
)

// TestScan checks P14.1 by hand.
func TestScan(t *testing.T) {
	l, line, e := Scan("a ->b 12 # x\n\n\t(0:+) # ZZ\x00\n# only\nx_1")
	want := "[{1 a 1} {3 -> 1} {1 b 1} {2 12 1} {4  1} {3 ( 3} {2 0 3} {3 : 3} {3 + 3} {3 ) 3} {4  3} {1 x_1 5} {4  5}]"
	if fmt.Sprint(l) != want || line != 0 || e != api.OK {
		t.Errorf("Scan gives %v, %d, %d", l, line, e)
	}
	for _, s := range []string{"", "\n\n", " \t", "# a", " \n#"} {
		if l, line, e := Scan(s); len(l) > 0 || line != 0 || e != api.OK {
			t.Errorf("Scan(%q) gives %v, %d, %d", s, l, line, e)
		}
	}
}

// TestErrors checks the errors of P14.1, and which comes first.
func TestErrors(t *testing.T) {
	many := strings.Repeat("( ", 1023)
	for _, x := range []struct {
		text string
		line int
		e    api.Errno
	}{
		{strings.Repeat("A", api.MaxText+1), 0, api.ErrLimit}, {strings.Repeat(" ", api.MaxText), 0, api.OK}, {"a\nB", 2, api.ErrSyntax}, {"a\n\n-", 3, api.ErrSyntax}, {"- >", 1, api.ErrSyntax}, {">", 1, api.ErrSyntax},
		{"1a", 1, api.ErrSyntax}, {"_a", 1, api.ErrSyntax}, {"01", 1, api.ErrSyntax}, {"12345678", 1, api.ErrSyntax}, {"9999999", 0, api.OK}, {"abcdefghijkl", 0, api.OK}, {"abcdefghijklm", 1, api.ErrSyntax},
		{"a\r\n", 1, api.ErrSyntax}, {"\xc3\xa4", 1, api.ErrSyntax}, {"a-b", 1, api.ErrSyntax}, {"0", 0, api.OK}, {"a\x00", 1, api.ErrSyntax}, {"1_", 1, api.ErrSyntax},
		{many, 0, api.OK}, {"(\n" + many, 2, api.ErrLimit}, {many + "(", 1, api.ErrLimit}, {many + "( (\nA", 1, api.ErrLimit}, {many + "( A", 1, api.ErrSyntax}, {many + "( ( A", 1, api.ErrLimit},
		{"A\n" + many + "((((", 1, api.ErrSyntax}, {many + "\nA", 2, api.ErrSyntax},
	} {
		l, line, e := Scan(x.text)
		if line != x.line || e != x.e || e != api.OK && l != nil {
			t.Errorf("Scan(%.20q..) gives %d tokens, %d, %d", x.text, len(l), line, e)
		}
	}
}

// TestWordAndNumber checks P14.2.
func TestWordAndNumber(t *testing.T) {
	for s, ok := range map[string]bool{"a": true, "a_1": true, "z9": true, "": false, "1a": false, "_": false, "A": false, "aB": false, "a b": false, "abcdefghijkl": true, "abcdefghijklm": false, "a\n": false, "12": false} {
		if Word(s) != ok {
			t.Errorf("Word(%q) is not %v", s, ok)
		}
	}
	for n, s := range map[int]string{0: "0", 9999999: "9999999", 10000000: "", -1: "", 120: "120"} {
		if Number(n) != s {
			t.Errorf("Number(%d) gives %q", n, Number(n))
		}
	}
}

// TestJoin checks P14.2, and that Scan of Join gives the same tokens.
func TestJoin(t *testing.T) {
	for _, x := range [][2]string{{"a  ->b 12 # x\n\n(0)", "a -> b 12\n( 0 )\n"}, {"", ""}, {"x", "x\n"}} {
		l, _, _ := Scan(x[0])
		if s := Join(l); s != x[1] {
			t.Errorf("Join gives %q", s)
		}
		again, _, e := Scan(Join(l))
		for i := range l {
			if e != api.OK || len(again) != len(l) || again[i].Kind != l[i].Kind || again[i].Text != l[i].Text {
				t.Errorf("Scan of Join gives %v and not %v", again, l)
			}
		}
	}
	if s := Join([]api.Token{{Kind: 4, Text: "zz"}, {Kind: 4}, {Kind: 1, Text: "a"}, {Kind: 1, Text: "b"}}); s != "\n\na b" {
		t.Errorf("Join gives %q", s)
	}
}
