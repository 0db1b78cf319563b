package tests

import (
	"slices"
	"strings"
	"testing"

	"loop.example/g00170/impl"
)

func samePart(a, b impl.Part) bool {
	return a.Node == b.Node && slices.Equal(a.Keys, b.Keys)
}

func part(node string, keys ...string) impl.Part {
	return impl.Part{Node: node, Keys: keys}
}

func wantSplit(t *testing.T, l []impl.Node, keys []string, want ...impl.Part) {
	t.Helper()
	if parts, ok := impl.SplitKeys(l, keys); !slices.EqualFunc(parts, want, samePart) || !ok {
		t.Errorf("SplitKeys(%v, %q) = %q, %v; want %q, true", l, keys, parts, ok, want)
	}
}

func wantNoSplit(t *testing.T, what string, l []impl.Node, keys []string) {
	t.Helper()
	if parts, ok := impl.SplitKeys(l, keys); len(parts) != 0 || ok {
		t.Errorf("%s: SplitKeys = %q, %v", what, parts, ok)
	}
}

func wantValues(t *testing.T, items []impl.Item, token bool, want string) {
	t.Helper()
	if text, ok := impl.ValuesText(items, token); text != want || !ok {
		t.Errorf("ValuesText(%+v, %v) = %q, %v; want %q, true", items, token, text, ok, want)
	}
}

func wantNoValues(t *testing.T, what string, items []impl.Item, token bool) {
	t.Helper()
	if text, ok := impl.ValuesText(items, token); text != "" || ok {
		t.Errorf("%s: ValuesText(.., %v) = %q, %v", what, token, text, ok)
	}
}

func wantItems(t *testing.T, s string, token bool, want []impl.Item) {
	t.Helper()
	if items, ok := impl.ReadValues(s, token); !slices.Equal(items, want) || !ok {
		t.Errorf("ReadValues(%q, %v) = %+v, %v; want %+v, true", s, token, items, ok, want)
	}
}

func wantNoItems(t *testing.T, what, s string, token bool) {
	t.Helper()
	if items, ok := impl.ReadValues(s, token); len(items) != 0 || ok {
		t.Errorf("%s: ReadValues(%q, %v) = %+v, %v", what, s, token, items, ok)
	}
}

func wantMerge(t *testing.T, l []impl.Node, keys, answers []string, token bool, want string) {
	t.Helper()
	if text, ok := impl.MergeAnswers(l, keys, answers, token); text != want || !ok {
		t.Errorf("MergeAnswers(%v, %q, %q, %v) = %q, %v; want %q, true", l, keys, answers, token, text, ok, want)
	}
}

func wantNoMerge(t *testing.T, what string, l []impl.Node, keys, answers []string, token bool) {
	t.Helper()
	if text, ok := impl.MergeAnswers(l, keys, answers, token); text != "" || ok {
		t.Errorf("%s: MergeAnswers(%v, %q, %q, %v) = %q, %v", what, l, keys, answers, token, text, ok)
	}
}

// textOf is the text of items that must be told.
func textOf(t *testing.T, token bool, items ...impl.Item) string {
	t.Helper()
	text, ok := impl.ValuesText(items, token)
	if !ok {
		t.Fatalf("ValuesText(%+v, %v) says false", items, token)
	}
	return text
}

// val is an item with that key whose Data and Token tell it from others of the key.
func val(key string, token int) impl.Item {
	return impl.Item{Key: key, Flags: token + 1, Data: "data " + twoDigits(token%100), Token: token}
}

// asRead are the items as their text tells them.
func asRead(items []impl.Item, token bool) []impl.Item {
	out := slices.Clone(items)
	for i := range out {
		out[i].Until = 0
		if !token {
			out[i].Token = 0
		}
	}
	return out
}

// tellableLists are lists that are told with a token and without, many of them with texts that look like others.
func tellableLists() [][]impl.Item {
	full := strings.Repeat("\r\n", impl.MaxValue/2)
	long := key(impl.MaxKey)
	odd := []impl.Item{
		{Key: "END", Data: "END\r\n", Token: 1},
		{Key: "VALUE", Flags: 1, Data: "VALUE x 0 1\r\nv\r\nEND\r\n", Until: 7, Token: mostTokens},
		{Key: "!", Flags: impl.MaxNumber, Token: 10},
		{Key: "~", Flags: 9, Data: "\r", Until: 2 * impl.MaxNumber, Token: 99},
		{Key: long, Flags: 100, Data: full, Token: 5},
		{Key: long, Flags: 100, Data: full, Token: 5},
		{Key: "0", Data: "\n", Token: 2},
		{Key: "1", Data: "\x00\xff \t", Token: 3},
		{Key: "END", Data: "again", Token: 4},
	}
	lists := [][]impl.Item{nil, odd, slices.Repeat(odd[4:5], mostAsked)}
	for i := range odd {
		lists = append(lists, odd[i:i+1], odd[i:])
	}
	var counted []impl.Item
	for i := range mostAsked {
		counted = append(counted, impl.Item{Key: twoDigits(i), Flags: i, Data: strings.Repeat("d", i), Token: i + 1})
	}
	return append(lists, counted, counted[:mostAsked-1])
}
