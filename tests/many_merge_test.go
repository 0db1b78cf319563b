package tests

import (
	"slices"
	"strings"
	"testing"

	"loop.example/g00170/impl"
)

const noneFound = "END\r\n"

// Of twoNodes k1, k3 and user:17 belong to a; k2, a, foo and bar to b.
func TestMergeOfTwoNodes(t *testing.T) {
	l := twoNodes()
	for _, token := range withAndWithout {
		a := textOf(t, token, val("k1", 1), val("k3", 3))
		b := textOf(t, token, val("k2", 2), val("foo", 4))
		wantMerge(t, l, []string{"k1", "k2", "k3", "foo"}, []string{a, b}, token,
			textOf(t, token, val("k1", 1), val("k2", 2), val("k3", 3), val("foo", 4)))
		wantMerge(t, l, []string{"k2", "k1", "k3", "foo"}, []string{b, a}, token,
			textOf(t, token, val("k2", 2), val("k1", 1), val("k3", 3), val("foo", 4)))
		wantMerge(t, l, []string{"user:17", "k2", "bar", "foo", "k1", "a", "k3"}, []string{a, b}, token,
			textOf(t, token, val("k2", 2), val("foo", 4), val("k1", 1), val("k3", 3)))
		wantNoMerge(t, "the answers of others", l, []string{"k1", "k2", "k3", "foo"}, []string{b, a}, token)
		wantNoMerge(t, "the other kind", l, []string{"k1", "k2", "k3", "foo"}, []string{a, b}, !token)
	}
}

func TestMergeOfWhatIsNotThere(t *testing.T) {
	l := twoNodes()
	for _, token := range withAndWithout {
		wantMerge(t, l, []string{"k1", "k2"}, []string{noneFound, noneFound}, token, noneFound)
		one := textOf(t, token, val("k1", 1))
		wantMerge(t, l, []string{"k1", "k2"}, []string{one, noneFound}, token, one)
		wantMerge(t, l, []string{"k2", "k1"}, []string{noneFound, one}, token, one)
		wantMerge(t, l, []string{"k3", "k1", "user:17"}, []string{one}, token, one)
	}
}

func TestMergeOfNoKeys(t *testing.T) {
	for _, token := range withAndWithout {
		for _, keys := range [][]string{nil, {}} {
			wantMerge(t, twoNodes(), keys, nil, token, noneFound)
			wantMerge(t, eightNodes(5), keys, []string{}, token, noneFound)
			wantNoMerge(t, "an answer too many", twoNodes(), keys, []string{noneFound}, token)
			wantNoMerge(t, "an answer too many", twoNodes(), keys, []string{""}, token)
		}
	}
}

func TestTooFewAndTooManyAnswers(t *testing.T) {
	l, keys := twoNodes(), []string{"k1", "k2", "k3"}
	for _, token := range withAndWithout {
		a, b := textOf(t, token, val("k1", 1)), textOf(t, token, val("k2", 2))
		wantMerge(t, l, keys, []string{a, b}, token, textOf(t, token, val("k1", 1), val("k2", 2)))
		for what, answers := range map[string][]string{
			"none":              nil,
			"one":               {a},
			"three":             {a, b, noneFound},
			"an empty one":      {a, b, ""},
			"one for each key":  {a, b, a},
			"one for each node": {a, b, noneFound, noneFound, noneFound},
		} {
			wantNoMerge(t, what, l, keys, answers, token)
		}
		// a node without keys has no part, and so no answer
		wantMerge(t, l, keys[:1], []string{a}, token, a)
		wantNoMerge(t, "one for each node", l, keys[:1], []string{a, noneFound}, token)
	}
}

func TestAnAnswerThatIsNoValuesText(t *testing.T) {
	l, keys := twoNodes(), []string{"k1", "k2"}
	for _, token := range withAndWithout {
		a, b := textOf(t, token, val("k1", 1)), textOf(t, token, val("k2", 2))
		for _, bad := range []string{"", "END", "END\n", "ERROR\r\n", "STORED\r\n", a + a, a + "x", strings.TrimSuffix(a, noneFound), "VALUE k1 00 1\r\nv\r\nEND\r\n"} {
			wantNoMerge(t, "no values", l, keys, []string{bad, b}, token)
			wantNoMerge(t, "no values", l, keys, []string{bad, noneFound}, token)
			wantNoMerge(t, "no values", l, []string{"k2", "k1"}, []string{b, bad}, token)
		}
		for i := range a {
			wantNoMerge(t, "cut off", l, keys, []string{a[:i], b}, token)
		}
	}
}

// An item of another part's key, even where that key is asked for, is none of this part.
func TestAnItemThatIsNoKeyOfThePart(t *testing.T) {
	l := twoNodes()
	for _, token := range withAndWithout {
		one, two := val("k1", 1), val("k2", 2)
		both := textOf(t, token, one, two)
		wantNoMerge(t, "the other part's", l, []string{"k1", "k2"}, []string{both, noneFound}, token)
		wantNoMerge(t, "the other part's", l, []string{"k1", "k2"}, []string{noneFound, both}, token)
		wantNoMerge(t, "the other part's", l, []string{"k1", "k2"}, []string{textOf(t, token, two), textOf(t, token, one)}, token)
		for _, stray := range []string{"k3", "none", "K1", "k", "k11"} {
			wantNoMerge(t, "nobody's", l, []string{"k1"}, []string{textOf(t, token, val(stray, 3))}, token)
			wantNoMerge(t, "nobody's behind", l, []string{"k1"}, []string{textOf(t, token, one, val(stray, 3))}, token)
			wantNoMerge(t, "nobody's ahead", l, []string{"k1"}, []string{textOf(t, token, val(stray, 3), one)}, token)
		}
	}
}

func TestItemsThatAreNotInThePartsOrder(t *testing.T) {
	l, keys := twoNodes(), []string{"k1", "k3", "user:17"}
	first, second, third := val("k1", 1), val("k3", 2), val("user:17", 3)
	for _, token := range withAndWithout {
		for _, good := range [][]impl.Item{{first, second, third}, {first, second}, {first, third}, {second, third}, {first}, {second}, {third}, nil} {
			wantMerge(t, l, keys, []string{textOf(t, token, good...)}, token, textOf(t, token, good...))
		}
		for _, bad := range [][]impl.Item{{second, first}, {third, first}, {third, second}, {first, third, second}, {second, first, third}, {third, second, first}, {second, third, first}} {
			wantNoMerge(t, "another order", l, keys, []string{textOf(t, token, bad...)}, token)
		}
	}
}

// More items of a key than it stands there are not all taken.
func TestAnItemThatNoKeyTakes(t *testing.T) {
	l := twoNodes()
	one, two, three := val("k1", 1), val("k1", 2), val("k3", 3)
	for _, token := range withAndWithout {
		wantNoMerge(t, "one too many", l, []string{"k1"}, []string{textOf(t, token, one, two)}, token)
		wantNoMerge(t, "one too many", l, []string{"k1"}, []string{textOf(t, token, one, one)}, token)
		wantNoMerge(t, "one too many", l, []string{"k1", "k3"}, []string{textOf(t, token, one, one, three)}, token)
		wantNoMerge(t, "one too many", l, []string{"k1", "k3", "k1"}, []string{textOf(t, token, one, two, three)}, token)
		wantNoMerge(t, "one too many", l, []string{"k1", "k3", "k1"}, []string{textOf(t, token, three, one, two)}, token)
		wantNoMerge(t, "one too many", l, []string{"k1", "k1"}, []string{textOf(t, token, one, two, one)}, token)
		wantNoMerge(t, "no key", l, nil, []string{textOf(t, token, one)}, token)
		// the second part is held to it like the first
		wantNoMerge(t, "one too many", l, []string{"k2", "k1"}, []string{noneFound, textOf(t, token, one, two)}, token)
	}
}

// A key that comes twice takes the next item each time: its items need not be alike.
func TestAKeyThatComesTwice(t *testing.T) {
	l := twoNodes()
	one, two, three, other := val("k1", 1), val("k1", 2), val("k3", 3), val("k2", 4)
	for _, token := range withAndWithout {
		tell := func(items ...impl.Item) string { return textOf(t, token, items...) }
		twice := []string{"k1", "k1"}
		wantMerge(t, l, twice, []string{noneFound}, token, noneFound)
		wantMerge(t, l, twice, []string{tell(one)}, token, tell(one))
		wantMerge(t, l, twice, []string{tell(one, one)}, token, tell(one, one))
		wantMerge(t, l, twice, []string{tell(two, one)}, token, tell(two, one))
		around := []string{"k1", "k3", "k1"}
		wantMerge(t, l, around, []string{tell(one, three)}, token, tell(one, three))
		wantMerge(t, l, around, []string{tell(three, one)}, token, tell(three, one))
		wantMerge(t, l, around, []string{tell(one, three, two)}, token, tell(one, three, two))
		wantMerge(t, l, around, []string{tell(one, two)}, token, tell(one, two))
		// with one item it is the first of the two that takes it, ahead of what is asked between
		mixed := []string{"k1", "k2", "k1"}
		wantMerge(t, l, mixed, []string{tell(one), tell(other)}, token, tell(one, other))
		wantMerge(t, l, mixed, []string{tell(two, one), tell(other)}, token, tell(two, other, one))
		wantMerge(t, l, mixed, []string{tell(two, one), noneFound}, token, tell(two, one))
	}
}

func TestMergeOfSixtyKeysAndOneMore(t *testing.T) {
	one := []impl.Node{{Name: "a", Weight: 1}}
	for _, token := range withAndWithout {
		for _, many := range []int{1, mostAsked - 1, mostAsked} {
			var items []impl.Item
			for i, k := range keysOf(many) {
				items = append(items, val(k, i+1))
			}
			text := textOf(t, token, items...)
			wantMerge(t, one, keysOf(many), []string{text}, token, text)
			same := textOf(t, token, slices.Repeat([]impl.Item{val("x", 5)}, many)...)
			wantMerge(t, one, slices.Repeat([]string{"x"}, many), []string{same}, token, same)
		}
		for _, keys := range [][]string{keysOf(mostAsked + 1), manyKeys(mostAsked+1, 1), keysOf(1000)} {
			wantNoMerge(t, "61 keys", one, keys, []string{noneFound}, token)
			wantNoMerge(t, "61 keys", one, keys, []string{textOf(t, token, val(keys[0], 1))}, token)
			wantNoMerge(t, "61 keys", one, keys, nil, token)
		}
	}
}

// The largest answers that there can be come through: 60 items with the longest of all.
func TestMergeOfTheLargestAnswer(t *testing.T) {
	l := eightNodes(5)
	it := impl.Item{Flags: impl.MaxNumber, Data: strings.Repeat("\x00", impl.MaxValue), Token: mostTokens}
	var keys []string
	var items []impl.Item
	for i := range mostAsked {
		it.Key = key(impl.MaxKey-2) + twoDigits(i)
		keys, items = append(keys, it.Key), append(items, it)
	}
	for _, token := range withAndWithout {
		var answers []string
		parts, _ := slowSplit(l, keys)
		for _, p := range parts {
			var some []impl.Item
			for _, k := range p.Keys {
				some = append(some, items[slices.Index(keys, k)])
			}
			answers = append(answers, textOf(t, token, some...))
		}
		if len(answers) < 4 {
			t.Error("too few parts:", len(answers))
		}
		wantMerge(t, l, keys, answers, token, textOf(t, token, items...))
	}
}

func TestMergeOfNodesAndKeysThatAreNotGood(t *testing.T) {
	for _, token := range withAndWithout {
		answer := textOf(t, token, val("k1", 1))
		for what, l := range notNodes() {
			wantNoMerge(t, what, l, []string{"k1"}, []string{answer}, token)
			wantNoMerge(t, what, l, []string{"k1"}, []string{noneFound}, token)
			wantNoMerge(t, what, l, nil, nil, token)
			wantNoMerge(t, what, l, []string{"k1"}, nil, token)
		}
		for _, bad := range notKeys {
			for _, keys := range [][]string{{bad}, {"k1", bad}, {bad, "k1"}} {
				wantNoMerge(t, "a key that is none", twoNodes()[:1], keys, []string{noneFound}, token)
				wantNoMerge(t, "a key that is none", twoNodes()[:1], keys, []string{answer}, token)
				wantNoMerge(t, "a key that is none", twoNodes()[:1], keys, nil, token)
			}
		}
	}
}
