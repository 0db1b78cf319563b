package tests

import (
	"reflect"
	"slices"
	"strings"
	"testing"
	"unsafe"

	"loop.example/g00170/impl"
)

// sameCmd takes the empty list and the nil list for the same, as the document does.
func sameCmd(a, b impl.Cmd) bool {
	if !slices.Equal(a.Keys, b.Keys) {
		return false
	}
	a.Keys, b.Keys = nil, nil
	return reflect.DeepEqual(a, b)
}

func sameCmds(a, b []impl.Cmd) bool {
	return slices.EqualFunc(a, b, sameCmd)
}

// wantRead holds ReadCmd's whole answer against what is wanted.
func wantRead(t *testing.T, s string, want impl.Cmd, taken, code int) {
	t.Helper()
	c, n, got := impl.ReadCmd(s)
	if !sameCmd(c, want) || n != taken || got != code {
		t.Errorf("ReadCmd(%q) = %+v, %d, %d; want %+v, %d, %d", s, c, n, got, want, taken, code)
	}
}

// wantFault is wantRead for the codes beside which no command stands.
func wantFault(t *testing.T, s string, taken, code int) {
	t.Helper()
	wantRead(t, s, impl.Cmd{}, taken, code)
}

func key(n int) string {
	return strings.Repeat("k", n)
}

// manyKeys are n keys, all of that length.
func manyKeys(n, length int) []string {
	return slices.Repeat([]string{key(length)}, n)
}

// shares says whether the bytes of part lie in the memory of whole.
func shares(part, whole string) bool {
	if part == "" || whole == "" {
		return false
	}
	p := uintptr(unsafe.Pointer(unsafe.StringData(part)))
	w := uintptr(unsafe.Pointer(unsafe.StringData(whole)))
	return p < w+uintptr(len(whole)) && w < p+uintptr(len(part))
}

// sameList says whether two lists lie in the same memory, their capacity counted.
func sameList[T any](a, b []T) bool {
	if cap(a) == 0 || cap(b) == 0 {
		return false
	}
	var one T
	p, q := uintptr(unsafe.Pointer(unsafe.SliceData(a))), uintptr(unsafe.Pointer(unsafe.SliceData(b)))
	return p < q+uintptr(cap(b))*unsafe.Sizeof(one) && q < p+uintptr(cap(a))*unsafe.Sizeof(one)
}

// numbers is a fixed row of numbers that look as if thrown; each test begins it anew.
type numbers struct{ state uint64 }

func (n *numbers) below(most int) int {
	n.state = n.state*6364136223846793005 + 1442695040888963407
	return int(n.state>>33) % most
}

func pick[T any](n *numbers, from []T) T {
	return from[n.below(len(from))]
}

var edgeNumbers = []int{0, 1, 9, 10, 99, 100, 101, 12345, impl.MaxNumber - 1, impl.MaxNumber}

// everyKind has each name, with and without Quiet where it may have it, at ordinary values and at the edges.
func everyKind() []impl.Cmd {
	long := key(impl.MaxKey)
	allBytes := make([]byte, impl.MaxValue)
	for i := range allBytes {
		allBytes[i] = byte(i * 7)
	}
	datas := []string{"", "x", "\r\n", "\n\r\r\n\n", "a\r\nget b\r\n", string(allBytes), strings.Repeat("\n", impl.MaxValue)}
	var out []impl.Cmd
	for _, name := range []string{"get", "gets"} {
		for _, keys := range [][]string{{"a"}, {"!", "~"}, {"a", "a", "a"}, {"noreply"}, {long}, manyKeys(impl.MaxKeys, 1), manyKeys(9, impl.MaxKey)} {
			out = append(out, impl.Cmd{Name: name, Keys: keys})
		}
	}
	for _, quiet := range []bool{false, true} {
		for _, k := range []string{"a", "noreply", "!~", long} {
			keys := []string{k}
			for _, name := range []string{"set", "add", "replace", "append", "prepend", "cas"} {
				for i, data := range datas {
					c := impl.Cmd{Name: name, Keys: keys, Flags: edgeNumbers[i], Expire: edgeNumbers[i+2], Data: data, Quiet: quiet}
					if name == "cas" {
						c.Number = edgeNumbers[i+3]
					}
					out = append(out, c)
				}
			}
			for _, n := range edgeNumbers {
				out = append(out,
					impl.Cmd{Name: "incr", Keys: keys, Number: n, Quiet: quiet},
					impl.Cmd{Name: "decr", Keys: keys, Number: n, Quiet: quiet},
					impl.Cmd{Name: "touch", Keys: keys, Expire: n, Quiet: quiet})
			}
			out = append(out, impl.Cmd{Name: "delete", Keys: keys, Quiet: quiet})
		}
	}
	for _, name := range []string{"flush_all", "version", "quit"} {
		out = append(out, impl.Cmd{Name: name})
	}
	return out
}
