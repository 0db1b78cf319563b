package tests

import (
	"reflect"
	"regexp"
	"slices"
	"strconv"
	"strings"
	"testing"

	"loop.example/g00170/impl"
)

// The shapes of the chapter's lines, told apart from the program.
var (
	getShape   = regexp.MustCompile(`^gets?((?: [!-~]{1,30}){1,10})$`)
	storeShape = regexp.MustCompile(`^(set|add|replace|append|prepend|cas) ([!-~]{1,30}) (0|[1-9]\d{0,9}) (0|[1-9]\d{0,9}) (0|[1-9]\d{0,3})(?: (0|[1-9]\d{0,9}))?( noreply)?$`)
	countShape = regexp.MustCompile(`^(incr|decr|touch) ([!-~]{1,30}) (0|[1-9]\d{0,9})( noreply)?$`)
	dropShape  = regexp.MustCompile(`^delete ([!-~]{1,30})( noreply)?$`)
	plainShape = regexp.MustCompile(`^(flush_all|version|quit)$`)
	nameShape  = regexp.MustCompile(`^(gets?|set|add|replace|append|prepend|cas|incr|decr|touch|delete|flush_all|version|quit)( |$)`)
)

// slowLine is the command of a line, how many bytes of Data it wants (-1: it has none), and whether it is as said.
func slowLine(line string) (impl.Cmd, int, bool) {
	number := func(s string) int {
		n, _ := strconv.Atoi(s)
		return n
	}
	if m := getShape.FindStringSubmatch(line); m != nil {
		return impl.Cmd{Name: strings.Fields(line)[0], Keys: strings.Split(m[1][1:], " ")}, -1, true
	}
	if m := storeShape.FindStringSubmatch(line); m != nil {
		c := impl.Cmd{Name: m[1], Keys: m[2:3], Flags: number(m[3]), Expire: number(m[4]), Number: number(m[6]), Quiet: m[7] != ""}
		most := max(c.Flags, c.Expire, c.Number)
		return c, number(m[5]), most <= impl.MaxNumber && number(m[5]) <= impl.MaxSwallow && (m[1] == "cas") == (m[6] != "")
	}
	if m := countShape.FindStringSubmatch(line); m != nil {
		c := impl.Cmd{Name: m[1], Keys: m[2:3], Quiet: m[4] != ""}
		if m[1] == "touch" {
			c.Expire = number(m[3])
		} else {
			c.Number = number(m[3])
		}
		return c, -1, number(m[3]) <= impl.MaxNumber
	}
	if m := dropShape.FindStringSubmatch(line); m != nil {
		return impl.Cmd{Name: "delete", Keys: m[1:2], Quiet: m[2] != ""}, -1, true
	}
	if plainShape.MatchString(line) {
		return impl.Cmd{Name: line}, -1, true
	}
	return impl.Cmd{}, -1, false
}

// slowRead is ReadCmd once more, by the shapes above.
func slowRead(s string) (impl.Cmd, int, int) {
	at := strings.IndexByte(s, 10)
	if at < 0 && len(s) <= impl.MaxLine {
		return impl.Cmd{}, 0, impl.WireMore
	}
	if at < 0 || at > impl.MaxLine {
		return impl.Cmd{}, impl.MaxLine + 1, impl.WireClient
	}
	line, _ := strings.CutSuffix(s[:at], "\r")
	if !nameShape.MatchString(line) {
		return impl.Cmd{}, at + 1, impl.WireError
	}
	c, size, ok := slowLine(line)
	if !ok {
		return impl.Cmd{}, at + 1, impl.WireClient
	}
	if size < 0 {
		return c, at + 1, impl.WireOk
	}
	all := at + 1 + size + 2
	switch {
	case len(s) < all:
		return impl.Cmd{}, 0, impl.WireMore
	case s[all-2:all] != "\r\n":
		return impl.Cmd{}, all, impl.WireClient
	case size > impl.MaxValue:
		return impl.Cmd{}, all, impl.WireLarge
	}
	c.Data = s[at+1 : all-2]
	return c, all, impl.WireOk
}

// wildText puts words together that may be a command.
func wildText(n *numbers) string {
	names := []string{"get", "gets", "set", "add", "replace", "append", "prepend", "cas", "incr", "decr", "touch", "delete", "flush_all", "version", "quit", "fly", "", "GET"}
	words := []string{"a", "noreply", "0", "1", "2", "5", "00", "07", "-1", "100", "101", "1000", "1001", "1000000000", "1000000001", "", "\x7f", "\r", key(30), key(31), "k!~"}
	if n.below(5) == 0 {
		size := pick(n, []int{0, 1, 99, 100, 101, 102, 999, 1000, 1001})
		behind := pick(n, []string{"\r\n", "\r\n", "\r\n", "\n\r", "\r", "", "xy"})
		return pick(n, names[2:8]) + " a 0 7 " + strconv.Itoa(size) + pick(n, []string{"", "", " 5", " noreply", " 5 noreply"}) + "\r\n" + strings.Repeat(pick(n, []string{"x", "\n"}), size) + behind
	}
	var b strings.Builder
	b.WriteString(pick(n, names))
	if n.below(3) > 0 {
		b.WriteString(" " + pick(n, []string{"a", "noreply", key(30), key(31), "0"}))
		for range n.below(5) {
			b.WriteString(" " + pick(n, []string{"0", "1", "2", "100", "1000000000"}))
		}
		if n.below(2) == 0 {
			b.WriteString(" noreply")
		}
	} else {
		for range n.below(13) {
			b.WriteString(" " + pick(n, words))
		}
	}
	b.WriteString(pick(n, []string{"\r\n", "\r\n", "\n", "\r\r\n", "\r", ""}))
	b.WriteString(strings.Repeat(pick(n, []string{"x", "\r\n", "\n"}), pick(n, []int{0, 1, 2, 100, 101, 1000})))
	b.WriteString(pick(n, []string{"\r\n", "\n", "", "\r\nget a\r\n"}))
	return b.String()
}

func TestReadAsTheShapesSay(t *testing.T) {
	n := &numbers{}
	seen := [5]int{}
	for range 40000 {
		s := wildText(n)
		want, taken, code := slowRead(s)
		wantRead(t, s, want, taken, code)
		seen[code]++
		if code == impl.WireOk && !impl.GoodCmd(want) {
			t.Errorf("%+v of %q is not good", want, s)
		}
	}
	for code, many := range seen {
		if many < 100 {
			t.Errorf("only %d texts have the code %d", many, code)
		}
	}
}

// Every text of few bytes, and of bytes that matter.
func TestReadShortTexts(t *testing.T) {
	level := []string{""}
	for range 5 {
		var next []string
		for _, s := range level {
			want, taken, code := slowRead(s)
			wantRead(t, s, want, taken, code)
			want, taken, code = slowRead("get" + s)
			wantRead(t, "get"+s, want, taken, code)
			want, taken, code = slowRead("set a 0 0 1\n" + s)
			wantRead(t, "set a 0 0 1\n"+s, want, taken, code)
			for _, b := range []string{" ", "\r", "\n", "a", "0", "\x00", "\xff"} {
				next = append(next, s+b)
			}
		}
		level = next
	}
}

// Promise 10: the arguments stay as they are, also what lies behind a list's length, which is not looked at.
func TestArgumentsStay(t *testing.T) {
	memory := []string{"a", "b", "no key\n", "behind"}
	kept := slices.Clone(memory)
	c := impl.Cmd{Name: "get", Keys: memory[:2]}
	if s, ok := impl.CmdText(c); !impl.GoodCmd(c) || s != "get a b\r\n" || !ok {
		t.Errorf("%q, %v", s, ok)
	}
	pieces := []string{"get a\r", "\nquit", "\r\n", "get b\r\n"}
	keptPieces := slices.Clone(pieces)
	if cmds, _, left, ok := impl.CmdsIn(pieces[:2]); len(cmds) != 1 || left != 4 || !ok {
		t.Errorf("%v, %d, %v", cmds, left, ok)
	}
	bad := append(badCmds(), everyKind()...)
	for i := range bad {
		before := bad[i]
		before.Keys = slices.Clone(before.Keys)
		impl.GoodCmd(bad[i])
		impl.CmdText(bad[i])
		if !sameCmd(before, bad[i]) {
			t.Errorf("%+v has become %+v", before, bad[i])
		}
	}
	if !slices.Equal(memory, kept) || !slices.Equal(pieces, keptPieces) {
		t.Errorf("%q, %q", memory, pieces)
	}
}

// Promise 10: what is answered is new memory.
func TestAnswersAreNew(t *testing.T) {
	s := strings.Clone("set key 1 2 4 noreply\r\ndata\r\nget ka kb\r\ndelete k\r\n")
	apart := func(c impl.Cmd, from string) {
		t.Helper()
		for _, part := range append([]string{c.Name, c.Data}, c.Keys...) {
			if shares(part, from) {
				t.Errorf("%q of %+v lies in the argument", part, c)
			}
		}
	}
	c, n, _ := impl.ReadCmd(s)
	apart(c, s)
	c, _, _ = impl.ReadCmd(s[n:])
	apart(c, s)
	pieces := []string{s}
	first, codes, _, _ := impl.CmdsIn(pieces)
	for _, c := range first {
		apart(c, s)
	}
	second, _, _, _ := impl.CmdsIn(pieces)
	for i := range first {
		codes[i] = -1
		for j := range first[i].Keys {
			first[i].Keys[j] = "x"
		}
		first[i].Keys = append(first[i].Keys, "y")
	}
	third, _, _, _ := impl.CmdsIn(pieces)
	if len(first) != 3 || !reflect.DeepEqual(second, third) || pieces[0] != s {
		t.Errorf("%+v, %+v", second, third)
	}
	big := impl.Cmd{Name: strings.Clone("set"), Keys: []string{strings.Clone("k")}, Data: strings.Clone("value")}
	text, _ := impl.CmdText(big)
	if shares(text, big.Data) || shares(text, big.Keys[0]) || shares(text, big.Name) {
		t.Error("the text lies in the command")
	}
}

// Promise 10: any bytes get an answer that fits them.
func TestAnyBytes(t *testing.T) {
	n := &numbers{}
	for range 3000 {
		b := make([]byte, n.below(1500))
		for i := range b {
			b[i] = byte(n.below(256))
			if n.below(20) == 0 {
				b[i] = '\n'
			}
		}
		s := string(b)
		c, taken, code := impl.ReadCmd(s)
		want, wantTaken, wantCode := slowRead(s)
		if !sameCmd(c, want) || taken != wantTaken || code != wantCode || taken > len(s) {
			t.Errorf("ReadCmd(%q) = %+v, %d, %d", s, c, taken, code)
		}
		cmds, codes, left, ok := impl.CmdsIn([]string{s[:len(s)/2], s[len(s)/2:]})
		if len(cmds) != len(codes) || left > len(s) || !ok {
			t.Errorf("CmdsIn(%q) = %v, %v, %d, %v", s, cmds, codes, left, ok)
		}
		impl.GoodKey(s)
		if impl.GoodCmd(impl.Cmd{Name: s}) {
			t.Errorf("%q", s)
		}
	}
}
