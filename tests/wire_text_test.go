package tests

import (
	"math"
	"strings"
	"testing"

	"loop.example/g00170/impl"
)

func TestGoodKey(t *testing.T) {
	for _, s := range []string{"a", "!", "~", "noreply", key(impl.MaxKey)} {
		if !impl.GoodKey(s) {
			t.Errorf("%q is a key", s)
		}
	}
	for _, s := range []string{"", key(impl.MaxKey + 1), key(5000), "a b", " ", "a\r", "\na", "é", "a\x00"} {
		if impl.GoodKey(s) {
			t.Errorf("%q is no key", s)
		}
	}
	for b := range 256 {
		for _, s := range []string{string([]byte{byte(b)}), string([]byte{'a', byte(b)}), string([]byte{byte(b), 'a'})} {
			if got, want := impl.GoodKey(s), b >= 33 && b <= 126; got != want {
				t.Errorf("GoodKey(%q) = %v", s, got)
			}
		}
	}
}

func TestGoodCmdOfEveryKind(t *testing.T) {
	for _, c := range everyKind() {
		if !impl.GoodCmd(c) {
			t.Errorf("%+v is good", c)
		}
	}
	if !impl.GoodCmd(impl.Cmd{Name: "get", Keys: manyKeys(impl.MaxKeys, impl.MaxKey)}) {
		t.Error("as many keys as may be, as long as may be, are good")
	}
	if !impl.GoodCmd(impl.Cmd{Name: "quit", Keys: []string{}}) {
		t.Error("the empty list is the nil list")
	}
}

// badCmds are one step away from good ones.
func badCmds() []impl.Cmd {
	k := []string{"a"}
	out := []impl.Cmd{
		{}, {Keys: k}, {Name: "fly"}, {Name: "GET", Keys: k}, {Name: "get ", Keys: k}, {Name: " get", Keys: k}, {Name: "noreply"},
		{Name: "get"}, {Name: "gets"}, {Name: "get", Keys: []string{}},
		{Name: "get", Keys: manyKeys(impl.MaxKeys+1, 1)}, {Name: "gets", Keys: manyKeys(impl.MaxKeys+1, 1)},
		{Name: "get", Keys: []string{"a", ""}}, {Name: "get", Keys: []string{"a", "b c"}},
		{Name: "get", Keys: []string{"a", key(impl.MaxKey + 1)}}, {Name: "get", Keys: []string{" ", "a"}},
	}
	// what a kind does not name must be zero there
	named := map[string]string{"get": "", "gets": "", "set": "fedq", "add": "fedq", "replace": "fedq", "append": "fedq", "prepend": "fedq", "cas": "fednq",
		"incr": "nq", "decr": "nq", "touch": "eq", "delete": "q", "flush_all": "", "version": "", "quit": ""}
	for name, has := range named {
		keys := k
		if name == "flush_all" || name == "version" || name == "quit" {
			keys = nil
			out = append(out, impl.Cmd{Name: name, Keys: k})
		} else if name != "get" && name != "gets" {
			out = append(out, impl.Cmd{Name: name}, impl.Cmd{Name: name, Keys: []string{"a", "b"}}, impl.Cmd{Name: name, Keys: []string{""}}, impl.Cmd{Name: name, Keys: []string{key(impl.MaxKey + 1)}})
		}
		for _, n := range []int{1, -1, impl.MaxNumber + 1, math.MinInt, math.MaxInt} {
			if n != 1 || !strings.Contains(has, "f") {
				out = append(out, impl.Cmd{Name: name, Keys: keys, Flags: n})
			}
			if n != 1 || !strings.Contains(has, "e") {
				out = append(out, impl.Cmd{Name: name, Keys: keys, Expire: n})
			}
			if n != 1 || !strings.Contains(has, "n") {
				out = append(out, impl.Cmd{Name: name, Keys: keys, Number: n})
			}
		}
		if !strings.Contains(has, "d") {
			out = append(out, impl.Cmd{Name: name, Keys: keys, Data: "x"})
		}
		if !strings.Contains(has, "q") {
			out = append(out, impl.Cmd{Name: name, Keys: keys, Quiet: true})
		}
		out = append(out, impl.Cmd{Name: name, Keys: keys, Data: strings.Repeat("x", impl.MaxValue+1)})
	}
	return out
}

func TestBadCmdsHaveNoText(t *testing.T) {
	for _, c := range badCmds() {
		if impl.GoodCmd(c) {
			t.Errorf("%+v is not good", c)
		}
		if s, ok := impl.CmdText(c); s != "" || ok {
			t.Errorf("CmdText(%+v) = %q, %v", c, s, ok)
		}
	}
}

func TestCmdText(t *testing.T) {
	k := []string{"k"}
	for _, x := range []struct {
		c    impl.Cmd
		want string
	}{
		{impl.Cmd{Name: "get", Keys: k}, "get k\r\n"},
		{impl.Cmd{Name: "gets", Keys: []string{"a", "bc", "a"}}, "gets a bc a\r\n"},
		{impl.Cmd{Name: "set", Keys: k}, "set k 0 0 0\r\n\r\n"},
		{impl.Cmd{Name: "set", Keys: k, Flags: 1, Expire: 20, Data: "x\r\ny"}, "set k 1 20 4\r\nx\r\ny\r\n"},
		{impl.Cmd{Name: "add", Keys: k, Flags: 7, Data: "v", Quiet: true}, "add k 7 0 1 noreply\r\nv\r\n"},
		{impl.Cmd{Name: "replace", Keys: k, Expire: 7, Data: "v"}, "replace k 0 7 1\r\nv\r\n"},
		{impl.Cmd{Name: "append", Keys: k, Data: "v"}, "append k 0 0 1\r\nv\r\n"},
		{impl.Cmd{Name: "prepend", Keys: k, Data: "v"}, "prepend k 0 0 1\r\nv\r\n"},
		{impl.Cmd{Name: "cas", Keys: k, Flags: 1, Expire: 2, Number: 3, Data: "four"}, "cas k 1 2 4 3\r\nfour\r\n"},
		{impl.Cmd{Name: "cas", Keys: k, Number: impl.MaxNumber, Quiet: true}, "cas k 0 0 0 1000000000 noreply\r\n\r\n"},
		{impl.Cmd{Name: "incr", Keys: k, Number: 5}, "incr k 5\r\n"},
		{impl.Cmd{Name: "decr", Keys: k, Quiet: true}, "decr k 0 noreply\r\n"},
		{impl.Cmd{Name: "touch", Keys: k, Expire: 9}, "touch k 9\r\n"},
		{impl.Cmd{Name: "touch", Keys: k, Quiet: true}, "touch k 0 noreply\r\n"},
		{impl.Cmd{Name: "delete", Keys: k}, "delete k\r\n"},
		{impl.Cmd{Name: "delete", Keys: []string{"noreply"}, Quiet: true}, "delete noreply noreply\r\n"},
		{impl.Cmd{Name: "flush_all"}, "flush_all\r\n"},
		{impl.Cmd{Name: "version"}, "version\r\n"},
		{impl.Cmd{Name: "quit"}, "quit\r\n"},
	} {
		if s, ok := impl.CmdText(x.c); s != x.want || !ok {
			t.Errorf("CmdText(%+v) = %q, %v; want %q", x.c, s, ok, x.want)
		}
	}
}

// A good command whose line would be too long to be read has no text: 10 keys
// of 30 bytes are more than MaxLine.
func TestCmdTextOfLongLines(t *testing.T) {
	withLine := func(length int) impl.Cmd {
		keys := manyKeys(9, impl.MaxKey)
		return impl.Cmd{Name: "get", Keys: append(keys, key(length-len("get")-9*(impl.MaxKey+1)-1))}
	}
	c := withLine(impl.MaxLine - 1)
	s, ok := impl.CmdText(c)
	if !ok || len(s) != impl.MaxLine+1 {
		t.Fatalf("%q, %v", s, ok)
	}
	wantRead(t, s, c, impl.MaxLine+1, impl.WireOk)
	for _, c := range []impl.Cmd{withLine(impl.MaxLine), withLine(impl.MaxLine + 1), {Name: "gets", Keys: manyKeys(impl.MaxKeys, impl.MaxKey)}} {
		if s, ok := impl.CmdText(c); s != "" || ok || !impl.GoodCmd(c) {
			t.Errorf("CmdText(%+v) = %q, %v", c, s, ok)
		}
	}
}

func TestFaultText(t *testing.T) {
	want := map[int]string{impl.WireError: "ERROR\r\n", impl.WireClient: "CLIENT_ERROR bad\r\n", impl.WireLarge: "SERVER_ERROR large\r\n"}
	for _, code := range []int{math.MinInt, -1, impl.WireOk, impl.WireMore, impl.WireError, impl.WireClient, impl.WireLarge, 5, 100, math.MaxInt} {
		if s := impl.FaultText(code); s != want[code] {
			t.Errorf("FaultText(%d) = %q", code, s)
		}
	}
}
