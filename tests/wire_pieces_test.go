package tests

import (
	"reflect"
	"slices"
	"strings"
	"testing"

	"loop.example/g00170/impl"
)

// wantCmds holds CmdsIn's whole answer against what is wanted.
func wantCmds(t *testing.T, pieces []string, cmds []impl.Cmd, codes []int, left int) {
	t.Helper()
	c, k, n, ok := impl.CmdsIn(pieces)
	if !sameCmds(c, cmds) || !slices.Equal(k, codes) || n != left || !ok {
		t.Errorf("CmdsIn(%q) = %+v, %v, %d, %v; want %+v, %v, %d", pieces, c, k, n, ok, cmds, codes, left)
	}
}

func TestCmdsIn(t *testing.T) {
	get := impl.Cmd{Name: "get", Keys: []string{"a"}}
	set := impl.Cmd{Name: "set", Keys: []string{"k"}, Flags: 1, Data: "\r\n", Quiet: true}
	quit := impl.Cmd{Name: "quit"}
	none := impl.Cmd{}

	wantCmds(t, nil, nil, nil, 0)
	wantCmds(t, []string{}, nil, nil, 0)
	wantCmds(t, []string{"", "", ""}, nil, nil, 0)
	wantCmds(t, []string{"get a"}, nil, nil, 5)
	wantCmds(t, []string{"get a\r\n"}, []impl.Cmd{get}, []int{0}, 0)
	wantCmds(t, []string{"get a\nget a\r\ng"}, []impl.Cmd{get, get}, []int{0, 0}, 1)
	wantCmds(t, []string{"set k 1 0 2 nor", "eply\r", "\n\r", "\n\r", "", "\nget", " a\n", "se"}, []impl.Cmd{set, get}, []int{0, 0}, 2)
	wantCmds(t, []string{"set k 1 0 2 noreply\r\n\r\n\r"}, nil, nil, 24)
	wantCmds(t, []string{"fly\r\n\r\nget\nset k 0 0 1\nxx\r\n\nget a\n"},
		[]impl.Cmd{none, none, none, none, none, none, get},
		[]int{impl.WireError, impl.WireError, impl.WireClient, impl.WireClient, impl.WireError, impl.WireError, impl.WireOk}, 0)
	wantCmds(t, []string{"set k 0 0 101\r\n" + key(101) + "\r\nget a\r\n"}, []impl.Cmd{none, get}, []int{impl.WireLarge, 0}, 0)
	wantCmds(t, []string{key(impl.MaxLine + 1), "get a\n"}, []impl.Cmd{none, get}, []int{impl.WireClient, 0}, 0)
	wantCmds(t, []string{key(2*impl.MaxLine + 3)}, []impl.Cmd{none, none}, []int{impl.WireClient, impl.WireClient}, 1)
	wantCmds(t, []string{"quit\r\n"}, []impl.Cmd{quit}, []int{0}, 0)
}

func TestNothingBehindQuit(t *testing.T) {
	get := impl.Cmd{Name: "get", Keys: []string{"a"}}
	quit := impl.Cmd{Name: "quit"}
	for _, behind := range []string{"", "\n", "get a\r\n", "get", "quit\r\n", "fly\r\n", key(1000)} {
		wantCmds(t, []string{"get a\r\nquit\r\n" + behind}, []impl.Cmd{get, quit}, []int{0, 0}, 0)
		wantCmds(t, []string{"get a\r\nqu", "it\r\n", behind, behind}, []impl.Cmd{get, quit}, []int{0, 0}, 0)
	}
	wantCmds(t, []string{"quit x\r\nset a 0 0 6\r\nquit\r\n\r\nget a\r\n"},
		[]impl.Cmd{{}, {Name: "set", Keys: []string{"a"}, Data: "quit\r\n"}, get}, []int{impl.WireClient, 0, 0}, 0)
}

var streams = []string{
	"get a b\r\nset k 1 2 4 noreply\r\n\r\n\r\n\r\nfly\n\r\ndelete a noreply\r\ncas c 1 2 3 4\nxyzqq\nincr a 01\r\ntouch a 7\nget",
	"set a 0 0 2\nxy\r\nquit\r\nget a\r\nset a 0 0 9\r\nab",
	"\n\n\r\n \r\nadd a 0 0 0\r\n\r\nadd a 0 0 0\r\n\n\r\nversion\r\nflush_all\r\nset a 0 0 5\r\nget\r\n",
	"set a 0 0 105\r\n" + strings.Repeat("get a\r\n", 15) + "\r\nversion\r\n",
	strings.Repeat("x", impl.MaxLine+1) + "get a\r\nget b\r\n" + strings.Repeat("y", impl.MaxLine),
	"\r\r\nget \x00\r\n\xff\xfe\r\nset \x80 0 0 1\r\nx\r\n",
}

// Promise 1: every cut into two, three and many pieces tells the same.
func TestCutsChangeNothing(t *testing.T) {
	for _, s := range streams {
		cmds, codes, left, _ := impl.CmdsIn([]string{s})
		if len(cmds) == 0 || len(cmds) != len(codes) {
			t.Fatalf("%q: %v, %v", s, cmds, codes)
		}
		step := max(1, len(s)/150)
		for i := 0; i <= len(s); i++ {
			wantCmds(t, []string{s[:i], s[i:]}, cmds, codes, left)
			for j := i; j <= len(s); j += step {
				wantCmds(t, []string{s[:i], s[i:j], "", s[j:]}, cmds, codes, left)
			}
		}
		n := &numbers{}
		for range 200 {
			wantCmds(t, cutAtRandom(n, s), cmds, codes, left)
		}
	}
}

// cutAtRandom cuts into 60 pieces, some of them empty.
func cutAtRandom(n *numbers, s string) []string {
	cuts := []int{0}
	for range 59 {
		cuts = append(cuts, n.below(len(s)+1))
	}
	slices.Sort(cuts)
	var out []string
	for i, at := range cuts {
		end := len(s)
		if i+1 < len(cuts) {
			end = cuts[i+1]
		}
		out = append(out, s[at:end])
	}
	return out
}

func TestByteByByte(t *testing.T) {
	s := "set a 0 0 4\r\n\r\n\n\r\r\nget a\nfly\r\n\r\nquit\r\nget b\r\n"
	if len(s) > 60 {
		t.Fatal("too long for one piece a byte")
	}
	wantCmds(t, strings.Split(s, ""), []impl.Cmd{{Name: "set", Keys: []string{"a"}, Data: "\r\n\n\r"}, {Name: "get", Keys: []string{"a"}}, {}, {}, {Name: "quit"}},
		[]int{0, 0, impl.WireError, impl.WireError, 0}, 0)
}

func TestSixtyPieces(t *testing.T) {
	get := impl.Cmd{Name: "get", Keys: []string{"a"}}
	wantCmds(t, slices.Repeat([]string{"get a\r\n"}, 60), slices.Repeat([]impl.Cmd{get}, 60), make([]int, 60), 0)
	for _, many := range []int{61, 62, 1000} {
		for _, piece := range []string{"", "get a\r\n", "quit\r\n"} {
			c, k, n, ok := impl.CmdsIn(slices.Repeat([]string{piece}, many))
			if len(c) != 0 || len(k) != 0 || n != 0 || ok {
				t.Errorf("%d pieces: %v, %v, %d, %v", many, c, k, n, ok)
			}
		}
	}
}

// What CmdsIn tells is what ReadCmd tells, one behind the other.
func TestCmdsInReadsAsReadCmd(t *testing.T) {
	for _, s := range streams {
		cmds, codes, left, _ := impl.CmdsIn([]string{s})
		rest := s
		for i := range cmds {
			c, n, code := impl.ReadCmd(rest)
			if !reflect.DeepEqual(c, cmds[i]) || code != codes[i] || n == 0 {
				t.Fatalf("%q: %d: %+v, %d, %d", s, i, c, n, code)
			}
			rest = rest[n:]
		}
		if cmds[len(cmds)-1].Name == "quit" {
			continue
		}
		if _, n, code := impl.ReadCmd(rest); n != 0 || code != impl.WireMore || left != len(rest) {
			t.Errorf("%q: %d, %d; left %d", s, n, code, left)
		}
	}
}
