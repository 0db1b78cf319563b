package tests

import (
	"math"
	"slices"
	"strconv"
	"strings"
	"testing"

	"loop.example/g00170/impl"
)

var withAndWithout = []bool{false, true}

func TestValuesTextOfFewItems(t *testing.T) {
	x := impl.Item{Key: "x", Flags: 5, Data: "abc", Until: 9, Token: 17}
	y := impl.Item{Key: "y", Data: "", Token: 3}
	wantValues(t, nil, false, "END\r\n")
	wantValues(t, []impl.Item{}, true, "END\r\n")
	wantValues(t, []impl.Item{x}, false, "VALUE x 5 3\r\nabc\r\nEND\r\n")
	wantValues(t, []impl.Item{x}, true, "VALUE x 5 3 17\r\nabc\r\nEND\r\n")
	wantValues(t, []impl.Item{y, x, y}, false, "VALUE y 0 0\r\n\r\nVALUE x 5 3\r\nabc\r\nVALUE y 0 0\r\n\r\nEND\r\n")
	wantValues(t, []impl.Item{y, x, y}, true, "VALUE y 0 0 3\r\n\r\nVALUE x 5 3 17\r\nabc\r\nVALUE y 0 0 3\r\n\r\nEND\r\n")
}

// ValuesText tells items as a store does that is asked for them.
func TestValuesTextAsAStoreTells(t *testing.T) {
	s := threeItems()
	for _, keys := range [][]string{{"a"}, {"a", "b", "c"}, {"c", "a", "c"}, {"none"}, {"none", "b"}} {
		for _, token := range withAndWithout {
			var items []impl.Item
			for _, k := range keys {
				if it, there := impl.FindItem(s, 20, k); there {
					items = append(items, it)
				}
			}
			_, answer, _ := done(t, s, 20, askFor(keys, token))
			wantValues(t, items, token, answer)
		}
	}
}

func askFor(keys []string, token bool) impl.Cmd {
	if token {
		return impl.Cmd{Name: "gets", Keys: keys}
	}
	return impl.Cmd{Name: "get", Keys: keys}
}

func TestValuesTextOfManyItems(t *testing.T) {
	for _, token := range withAndWithout {
		for _, items := range tellableLists() {
			want, _ := slowValues(items, token)
			wantValues(t, items, token, want)
		}
		for _, many := range []int{mostAsked + 1, 2 * mostAsked, 1000} {
			wantNoValues(t, "61 items", slices.Repeat([]impl.Item{val("x", 1)}, many), token)
		}
	}
}

// itemEdges are items at an edge of one field, each with whether it is told: with a token, and without.
func itemEdges() []struct {
	what          string
	it            impl.Item
	with, without bool
} {
	type edge = struct {
		what          string
		it            impl.Item
		with, without bool
	}
	var out []edge
	add := func(what string, change func(*impl.Item), with, without bool) {
		it := impl.Item{Key: "x", Flags: 3, Data: "d", Token: 7}
		change(&it)
		out = append(out, edge{what, it, with, without})
	}
	for _, k := range []string{"!", "~", key(1), key(impl.MaxKey)} {
		add("a key", func(it *impl.Item) { it.Key = k }, true, true)
	}
	for _, k := range notKeys {
		add("no key", func(it *impl.Item) { it.Key = k }, false, false)
	}
	for _, flags := range []int{0, 1, impl.MaxNumber - 1, impl.MaxNumber} {
		add("flags", func(it *impl.Item) { it.Flags = flags }, true, true)
	}
	for _, flags := range []int{-1, impl.MaxNumber + 1, math.MinInt, math.MaxInt} {
		add("no flags", func(it *impl.Item) { it.Flags = flags }, false, false)
	}
	for _, many := range []int{0, 1, impl.MaxValue - 1, impl.MaxValue, impl.MaxValue + 1, 100000} {
		good := many <= impl.MaxValue
		add("data", func(it *impl.Item) { it.Data = strings.Repeat("\n", many) }, good, good)
	}
	for _, token := range []int{1, 2, mostTokens - 1, mostTokens} {
		add("a token", func(it *impl.Item) { it.Token = token }, true, true)
	}
	for _, token := range []int{0, -1, mostTokens + 1, math.MinInt, math.MaxInt} {
		add("no token", func(it *impl.Item) { it.Token = token }, false, true)
	}
	for _, until := range []int{1, 2 * impl.MaxNumber, 2*impl.MaxNumber + 1, -1, math.MinInt, math.MaxInt} {
		add("any until", func(it *impl.Item) { it.Until = until }, true, true)
	}
	return out
}

// Each condition is asked of each item, not of the first one alone.
func TestValuesTextAtTheEdges(t *testing.T) {
	for _, e := range itemEdges() {
		for many := 1; many <= 3; many++ {
			for at := range many {
				items := slices.Repeat([]impl.Item{val("y", 1)}, many)
				items[at] = e.it
				for _, token := range withAndWithout {
					good := e.without && !token || e.with && token
					if !good {
						wantNoValues(t, e.what, items, token)
						continue
					}
					want, _ := slowValues(items, token)
					wantValues(t, items, token, want)
					wantItems(t, want, token, asRead(items, token))
				}
			}
		}
	}
}

func TestItemsComeBack(t *testing.T) {
	for _, items := range tellableLists() {
		for _, token := range withAndWithout {
			wantItems(t, textOf(t, token, items...), token, asRead(items, token))
		}
	}
}

// Without a token nothing is asked of it, and none comes back.
func TestAnyTokenComesBackAsNone(t *testing.T) {
	for _, token := range []int{0, -1, mostTokens + 1, math.MinInt, math.MaxInt} {
		it := impl.Item{Key: "x", Data: "v", Until: -5, Token: token}
		wantValues(t, []impl.Item{it}, false, "VALUE x 0 1\r\nv\r\nEND\r\n")
		wantItems(t, textOf(t, false, it), false, []impl.Item{{Key: "x", Data: "v"}})
	}
}

func TestTextsThatAreCutOff(t *testing.T) {
	for _, items := range tellableLists() {
		for _, token := range withAndWithout {
			text := textOf(t, token, items...)
			for i := range text {
				wantNoItems(t, "cut off", text[:i], token)
			}
			if t.Failed() {
				return
			}
		}
	}
}

func TestTextsWithSomethingMore(t *testing.T) {
	for _, items := range tellableLists() {
		for _, token := range withAndWithout {
			text := textOf(t, token, items...)
			for _, more := range []string{"\x00", " ", "\n", "\r", "\r\n", "E", "END", "END\r\n", "VALUE", text} {
				wantNoItems(t, "something behind", text+more, token)
			}
			for _, more := range []string{"\x00", " ", "\n", "\r\n", "END\r\n", "VALUE x 0 0\r\n"} {
				wantNoItems(t, "something ahead", more+text, token)
			}
			wantNoItems(t, "END missing", strings.TrimSuffix(text, "END\r\n"), token)
		}
	}
}

func TestTextsWithAndWithoutTokens(t *testing.T) {
	for _, items := range tellableLists() {
		if len(items) == 0 {
			continue
		}
		for _, token := range withAndWithout {
			wantNoItems(t, "the other kind", textOf(t, token, items...), !token)
		}
	}
	for _, token := range withAndWithout {
		wantItems(t, "END\r\n", token, nil)
		wantNoItems(t, "both kinds", "VALUE x 0 1\r\nv\r\nVALUE y 0 1 3\r\nv\r\nEND\r\n", token)
		wantNoItems(t, "both kinds", "VALUE y 0 1 3\r\nv\r\nVALUE x 0 1\r\nv\r\nEND\r\n", token)
	}
}

// A number is read only as it is told: each place of a number is tried.
func TestNumbersThatAreNotAsTold(t *testing.T) {
	wrong := []string{"", "00", "01", "007", "+1", "-1", "-0", "+0", "1.0", "1e1", "0x1", "1_0", "x", "1x", "x1", "٣", " 1", "1 ", "\t1", "1\r",
		"1000000001", "10000000000", "9223372036854775807", "9223372036854775808", "18446744073709551617", "99999999999999999999999"}
	for _, word := range wrong {
		wantNoItems(t, "flags", "VALUE x "+word+" 1\r\nv\r\nEND\r\n", false)
		wantNoItems(t, "flags", "VALUE x "+word+" 1 7\r\nv\r\nEND\r\n", true)
		wantNoItems(t, "bytes", "VALUE x 0 "+word+"\r\nv\r\nEND\r\n", false)
		wantNoItems(t, "bytes", "VALUE x 0 "+word+" 7\r\nv\r\nEND\r\n", true)
		wantNoItems(t, "a token", "VALUE x 0 1 "+word+"\r\nv\r\nEND\r\n", true)
	}
	wantNoItems(t, "no bytes", "VALUE x 0 00\r\n\r\nEND\r\n", false)
	wantNoItems(t, "no bytes", "VALUE x 0 -0\r\n\r\nEND\r\n", false)
	wantNoItems(t, "the token 0", "VALUE x 0 1 0\r\nv\r\nEND\r\n", true)
	wantItems(t, "VALUE x 1000000000 1 1000000000\r\nv\r\nEND\r\n", true, []impl.Item{{Key: "x", Flags: impl.MaxNumber, Data: "v", Token: mostTokens}})
}

func TestLengthsThatAreNotThoseOfTheData(t *testing.T) {
	for _, data := range []string{"", "v", "abc", "\r\n", "\r\n\r\n", "END\r\n", strings.Repeat("x", impl.MaxValue)} {
		for size := range impl.MaxValue + 2 {
			for _, token := range withAndWithout {
				line := "VALUE x 0 " + strconv.Itoa(size)
				if token {
					line += " 7"
				}
				text := line + "\r\n" + data + "\r\nEND\r\n"
				if size == len(data) {
					wantItems(t, text, token, asRead([]impl.Item{{Key: "x", Data: data, Token: 7}}, token))
				} else {
					wantNoItems(t, "a length", text, token)
				}
			}
		}
	}
	long := strings.Repeat("x", impl.MaxValue+1)
	wantNoItems(t, "long data", "VALUE x 0 101\r\n"+long+"\r\nEND\r\n", false)
	wantNoItems(t, "long data", "VALUE x 0 101 7\r\n"+long+"\r\nEND\r\n", true)
}

func TestSixtyItemsAndOneMoreAreRead(t *testing.T) {
	for _, token := range withAndWithout {
		line := "VALUE x 0 0\r\n\r\n"
		if token {
			line = "VALUE x 0 0 7\r\n\r\n"
		}
		for _, many := range []int{1, mostAsked - 1, mostAsked} {
			want := slices.Repeat([]impl.Item{{Key: "x", Token: 7}}, many)
			wantItems(t, strings.Repeat(line, many)+"END\r\n", token, asRead(want, token))
		}
		for _, many := range []int{mostAsked + 1, mostAsked + 2, 1000} {
			wantNoItems(t, "61 items", strings.Repeat(line, many)+"END\r\n", token)
		}
	}
}

func TestTextsThatAreNoValues(t *testing.T) {
	for _, s := range []string{"", "\r\n", "\n", "END", "END\n", "END\r", "end\r\n", "END \r\n", " END\r\n", "END\r\n\r\n", "ERROR\r\n", "STORED\r\n", "VALUE\r\nEND\r\n",
		"VALUE \r\nEND\r\n", "VALUE x\r\nEND\r\n", "VALUE x 0\r\n\r\nEND\r\n", "value x 0 1\r\nv\r\nEND\r\n", "VALUE  x 0 1\r\nv\r\nEND\r\n",
		"VALUE x  0 1\r\nv\r\nEND\r\n", "VALUE x 0  1\r\nv\r\nEND\r\n", "VALUE x 0 1 \r\nv\r\nEND\r\n", " VALUE x 0 1\r\nv\r\nEND\r\n", "VALUE\tx\t0\t1\r\nv\r\nEND\r\n",
		"VALUE x 0 1\nv\r\nEND\r\n", "VALUE x 0 1\rv\r\nEND\r\n", "VALUE x 0 1\r\nv\nEND\r\n", "VALUE x 0 1\r\nvEND\r\n", "VALUE x 0 1\r\nv\r\rEND\r\n", "VALUE x 0 1\r\nv\n\rEND\r\n",
		"VALUE x 0 1\r\nv\r\nEND\n", "VALUE x 0 1\r\nv\r\nEND\r\nEND\r\n", "VALUE x 0 1\r\nv\r\nVALUE\r\nEND\r\n", "VALUE x y 0 1\r\nv\r\nEND\r\n",
		"VALUE x 0 1 7 8\r\nv\r\nEND\r\n", "VALUE x 0 1 7 \r\nv\r\nEND\r\n", "VALUE x 0 1  7\r\nv\r\nEND\r\n", "VALUE  0 1\r\nv\r\nEND\r\n", "VALUE  0 1 7\r\nv\r\nEND\r\n",
		"VALUES x 0 1\r\nv\r\nEND\r\n", "XVALUE x 0 1\r\nv\r\nEND\r\n", "VALU x 0 1\r\nv\r\nEND\r\n"} {
		for _, token := range withAndWithout {
			wantNoItems(t, "no values", s, token)
		}
	}
	for _, bad := range notKeys {
		wantNoItems(t, "no key", "VALUE "+bad+" 0 1\r\nv\r\nEND\r\n", false)
		wantNoItems(t, "no key", "VALUE "+bad+" 0 1 7\r\nv\r\nEND\r\n", true)
	}
}
