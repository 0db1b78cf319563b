package tests

import (
	"strconv"
	"strings"
	"testing"

	"loop.example/g00170/impl"
)

// Promise 1: a command comes back from its text, whatever follows, and no
// shorter text is one.
func TestCommandsComeBack(t *testing.T) {
	for _, c := range everyKind() {
		s, ok := impl.CmdText(c)
		if !ok {
			t.Fatalf("no text of %+v", c)
		}
		for _, behind := range []string{"", "\n", "\r\n", " ", "get a\r\n", "\x00\xff", s, key(1000)} {
			wantRead(t, s+behind, c, len(s), impl.WireOk)
		}
		for n := range len(s) {
			wantFault(t, s[:n], 0, impl.WireMore)
		}
	}
}

func TestReadLineEnds(t *testing.T) {
	get := impl.Cmd{Name: "get", Keys: []string{"a"}}
	wantRead(t, "get a\r\n", get, 7, impl.WireOk)
	wantRead(t, "get a\nrest\r\n", get, 6, impl.WireOk)
	wantRead(t, "quit\n", impl.Cmd{Name: "quit"}, 5, impl.WireOk)
	wantRead(t, "set a 1 2 3\nx\r\n\r\n", impl.Cmd{Name: "set", Keys: []string{"a"}, Flags: 1, Expire: 2, Data: "x\r\n"}, 17, impl.WireOk)
	wantFault(t, "get a\r\r\n", 8, impl.WireClient)
	wantFault(t, "quit\r\r\n", 7, impl.WireError)
	wantFault(t, "get a\rb\n", 8, impl.WireClient)
}

func TestReadMore(t *testing.T) {
	for _, s := range []string{"", "g", "get a", "get a\r", "fly", "fly\r", " ", strings.Repeat(" ", impl.MaxLine),
		"set a 0 0 2\r\n", "set a 0 0 2\r\nx", "set a 0 0 2\r\nxy", "set a 0 0 2\r\nxy\r", "set a 0 0 2\r\nxyz", "set a 0 0 0\r\n", "set a 0 0 0\r\n\r",
		"set a 0 0 101\r\n" + key(102), "cas a 0 0 1000 7 noreply\r\n" + key(1001)} {
		wantFault(t, s, 0, impl.WireMore)
	}
}

func TestReadError(t *testing.T) {
	for _, line := range []string{"", " ", "  ", " get a", "fly", "fly a b", "GET a", "Quit", "getx a", "ge", "get\ta", "get\x00", "noreply", "0", "\xff", "quit\x0b"} {
		for _, end := range []string{"\n", "\r\n"} {
			for _, behind := range []string{"", "\n", "get a\r\n", key(400)} {
				wantFault(t, line+end+behind, len(line+end), impl.WireError)
			}
		}
	}
}

// badLines have a name at the front and words behind it that are not as said.
func badLines() []string {
	out := []string{
		"get", "get ", "get  a", "get a ", "get a  b", "gets", "gets " + key(31), "get a " + key(31), "get a\tb", "get a\x7f", "get \xc3\xa9",
		"get a b c d e f g h i j k", "gets a b c d e f g h i j noreply",
		"flush_all noreply", "version noreply", "quit noreply", "quit ", "quit a", "flush_all 0", "version  ",
		"delete", "delete ", "delete a b", "delete a noreply b", "delete a noreply noreply", "delete a  noreply", "delete a noreply ", "delete a Noreply", "delete a noreplyx", "delete " + key(31),
		"incr", "incr a", "incr a noreply", "incr a 1 2", "incr a 1 no", "incr a 1 noreply x", "touch", "touch a", "touch a noreply", "touch a 1 1", "touch " + key(31) + " 1", "decr a b 1",
		"set a", "set a 0", "set a 0 0", "set a 0 0 noreply", "set a 0 0 0 1", "set a 0 0 0 noreply noreply", "set a 0 0 0 ", "set  0 0 0", "set a b 0 0 0",
		"cas a 0 0 0", "cas a 0 0 0 noreply", "cas a 0 0 0 0 0", "cas a 0 0 0 1 noreply 1",
		"add", "replace a 0 0", "append a 0 0 x", "prepend a 0 0 1 norepl",
	}
	for _, n := range []string{"", "00", "01", "007", "-1", "-0", "+1", "1x", "x", "1_0", "0x1", "1.0", "1e3", "١", strconv.Itoa(impl.MaxNumber + 1), "01000000000", "9223372036854775808", "18446744073709551616", strings.Repeat("9", 100)} {
		out = append(out, "set a "+n+" 0 0", "set a 0 "+n+" 0", "set a 0 0 "+n, "cas a 0 0 0 "+n, "incr a "+n, "decr a "+n+" noreply", "touch a "+n)
	}
	for _, n := range []string{strconv.Itoa(impl.MaxSwallow + 1), strconv.Itoa(impl.MaxNumber), "01000"} {
		out = append(out, "set a 0 0 "+n, "cas a 0 0 "+n+" 1", "prepend a 0 0 "+n+" noreply")
	}
	return out
}

func TestReadClientOfWords(t *testing.T) {
	for _, line := range badLines() {
		for _, end := range []string{"\n", "\r\n"} {
			for _, behind := range []string{"", "\r\n", "get a\r\n", key(2000)} {
				wantFault(t, line+end+behind, len(line+end), impl.WireClient)
			}
		}
	}
}

func TestReadNumbers(t *testing.T) {
	for _, n := range edgeNumbers {
		text := strconv.Itoa(n)
		wantRead(t, "incr a "+text+"\r\n", impl.Cmd{Name: "incr", Keys: []string{"a"}, Number: n}, len(text)+9, impl.WireOk)
		wantRead(t, "touch a "+text+" noreply\r\n", impl.Cmd{Name: "touch", Keys: []string{"a"}, Expire: n, Quiet: true}, len(text)+18, impl.WireOk)
		wantRead(t, "set a "+text+" 0 0\r\n\r\n", impl.Cmd{Name: "set", Keys: []string{"a"}, Flags: n}, len(text)+14, impl.WireOk)
		wantRead(t, "cas a 0 0 0 "+text+"\r\n\r\n", impl.Cmd{Name: "cas", Keys: []string{"a"}, Number: n}, len(text)+16, impl.WireOk)
	}
}

func TestReadData(t *testing.T) {
	for _, size := range []int{0, 1, impl.MaxValue - 1, impl.MaxValue, impl.MaxValue + 1, impl.MaxSwallow - 1, impl.MaxSwallow} {
		for _, unit := range []string{"x", "\n", "\r", "\xff"} {
			for _, name := range []string{"set", "append"} {
				line := name + " a 0 0 " + strconv.Itoa(size) + "\r\n"
				data := strings.Repeat(unit, size)
				all := len(line) + size + 2
				if size <= impl.MaxValue {
					wantRead(t, line+data+"\r\nget", impl.Cmd{Name: name, Keys: []string{"a"}, Data: data}, all, impl.WireOk)
				} else {
					wantFault(t, line+data+"\r\nget", all, impl.WireLarge)
				}
				for _, end := range []string{"\n\n", "\r\r", "\n\r", "xx", "x\n", "\rx", "  "} {
					wantFault(t, line+data+end+"\r\n", all, impl.WireClient)
				}
				wantFault(t, line+data+"\r", 0, impl.WireMore)
			}
		}
	}
}

func TestReadLineEdges(t *testing.T) {
	body := "get " + strings.Repeat(key(impl.MaxKey)+" ", 9)
	whole := func(length int) string { return body + key(length-len(body)) }
	keysOf := func(line string) []string { return strings.Split(line, " ")[1:] }

	met := whole(impl.MaxLine)
	wantRead(t, met+"\n", impl.Cmd{Name: "get", Keys: keysOf(met)}, impl.MaxLine+1, impl.WireOk)
	wantFault(t, met, 0, impl.WireMore)
	wantFault(t, met+"\r", impl.MaxLine+1, impl.WireClient)
	wantFault(t, met+"\r\n", impl.MaxLine+1, impl.WireClient)
	wantFault(t, met+"k", impl.MaxLine+1, impl.WireClient)
	wantFault(t, met+"k\n", impl.MaxLine+1, impl.WireClient)

	under := whole(impl.MaxLine - 1)
	wantRead(t, under+"\r\n", impl.Cmd{Name: "get", Keys: keysOf(under)}, impl.MaxLine+1, impl.WireOk)
	wantFault(t, under+"\r", 0, impl.WireMore)

	junk := strings.Repeat("x", impl.MaxLine)
	wantFault(t, junk, 0, impl.WireMore)
	wantFault(t, junk+"\n", impl.MaxLine+1, impl.WireError)
	wantFault(t, junk+"x", impl.MaxLine+1, impl.WireClient)
	wantFault(t, junk+"xx\nget a\n", impl.MaxLine+1, impl.WireClient)
	wantFault(t, strings.Repeat("x", 100000), impl.MaxLine+1, impl.WireClient)
}

func TestReadKeyEdges(t *testing.T) {
	for b := range 256 {
		k := "a" + string([]byte{byte(b)}) + "b"
		s := "delete " + k + "\r\n"
		switch {
		case b == 10:
			wantRead(t, s, impl.Cmd{Name: "delete", Keys: []string{"a"}}, 9, impl.WireOk)
		case b >= 33 && b <= 126:
			wantRead(t, s, impl.Cmd{Name: "delete", Keys: []string{k}}, len(s), impl.WireOk)
		default:
			wantFault(t, s, len(s), impl.WireClient)
		}
	}
	wantRead(t, "delete "+key(30)+"\n", impl.Cmd{Name: "delete", Keys: []string{key(30)}}, 38, impl.WireOk)
	wantFault(t, "delete "+key(31)+"\n", 39, impl.WireClient)
	wantRead(t, "get a b c d e f g h i j\n", impl.Cmd{Name: "get", Keys: strings.Split("a b c d e f g h i j", " ")}, 24, impl.WireOk)
	wantFault(t, "get a b c d e f g h i j k\n", 26, impl.WireClient)
}
