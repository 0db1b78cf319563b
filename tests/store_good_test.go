package tests

import (
	"slices"
	"strings"
	"testing"

	"loop.example/g00170/impl"
)

func storeOf(items ...impl.Item) impl.Store {
	return impl.Store{Limit: impl.MaxLimit, Next: mostTokens, Items: items}
}

func TestGoodStores(t *testing.T) {
	long, data := key(impl.MaxKey), strings.Repeat("d", impl.MaxValue)
	many := fullStore()
	good := map[string]struct {
		s      impl.Store
		charge int
	}{
		"empty":                {impl.Store{Next: 1}, 0},
		"an empty list":        {impl.Store{Next: 1, Items: []impl.Item{}}, 0},
		"limit and next most":  {impl.Store{Limit: impl.MaxLimit, Next: mostTokens}, 0},
		"three":                {threeItems(), 16 + 12 + 11},
		"most items":           {many, 12 * impl.MaxItems},
		"least item":           {storeOf(impl.Item{Key: "a", Token: 1}), 11},
		"greatest item":        {storeOf(impl.Item{Key: long, Flags: impl.MaxNumber, Data: data, Until: 2 * impl.MaxNumber, Token: mostTokens - 1}), 140},
		"any bytes of data":    {storeOf(impl.Item{Key: "a", Data: "\x00\xff\r\n ", Token: 1}), 16},
		"keys 33 and 126":      {storeOf(impl.Item{Key: "!~", Token: 1}), 12},
		"limit met":            {impl.Store{Limit: 23, Next: 3, Items: []impl.Item{{Key: "a", Token: 1}, {Key: "bc", Token: 2}}}, 23},
		"token just below":     {impl.Store{Limit: 23, Next: 3, Items: []impl.Item{{Key: "a", Token: 2}}}, 11},
		"tokens in any order":  {storeOf(impl.Item{Key: "z", Token: 9}, impl.Item{Key: "a", Token: 3}, impl.Item{Key: "m", Token: 5}), 33},
		"all else alike":       {storeOf(impl.Item{Key: "a", Flags: 1, Data: "x", Until: 5, Token: 1}, impl.Item{Key: "b", Flags: 1, Data: "x", Until: 5, Token: 2}), 24},
		"a key ahead of other": {storeOf(impl.Item{Key: "ab", Token: 1}, impl.Item{Key: "a", Token: 2}), 23},
	}
	for what, g := range good {
		if !impl.GoodStore(g.s) {
			t.Errorf("%s: GoodStore says false", what)
		}
		if n, ok := impl.ChargeOf(g.s); n != g.charge || !ok {
			t.Errorf("%s: ChargeOf = %d, %v; want %d, true", what, n, ok, g.charge)
		}
	}
}

func TestStoresThatAreNotGood(t *testing.T) {
	change := func(f func(*impl.Store)) impl.Store {
		s := threeItems()
		f(&s)
		return s
	}
	item := func(f func(*impl.Item)) impl.Store {
		return change(func(s *impl.Store) { f(&s.Items[1]) })
	}
	more := fullStore()
	more.Limit, more.Next = impl.MaxLimit, 100
	more.Items = append(more.Items, impl.Item{Key: "more", Token: 99})
	bad := map[string]impl.Store{
		"nothing set":     {},
		"limit below 0":   {Limit: -1, Next: 1},
		"limit beyond":    change(func(s *impl.Store) { s.Limit = impl.MaxLimit + 1 }),
		"next 0":          {Limit: 10, Next: 0},
		"next below 0":    {Limit: 10, Next: -1},
		"next beyond":     change(func(s *impl.Store) { s.Next = mostTokens + 1 }),
		"too many":        more,
		"no key":          item(func(it *impl.Item) { it.Key = "" }),
		"long key":        item(func(it *impl.Item) { it.Key = key(impl.MaxKey + 1) }),
		"key with 32":     item(func(it *impl.Item) { it.Key = "b " }),
		"key with 127":    item(func(it *impl.Item) { it.Key = "b\x7f" }),
		"flags below 0":   item(func(it *impl.Item) { it.Flags = -1 }),
		"flags beyond":    item(func(it *impl.Item) { it.Flags = impl.MaxNumber + 1 }),
		"data beyond":     item(func(it *impl.Item) { it.Data = strings.Repeat("d", impl.MaxValue+1) }),
		"until below 0":   item(func(it *impl.Item) { it.Until = -1 }),
		"until beyond":    item(func(it *impl.Item) { it.Until = 2*impl.MaxNumber + 1 }),
		"token 0":         item(func(it *impl.Item) { it.Token = 0 }),
		"token below 0":   item(func(it *impl.Item) { it.Token = -1 }),
		"token is next":   item(func(it *impl.Item) { it.Token = 9 }),
		"token above":     item(func(it *impl.Item) { it.Token = 10 }),
		"token far above": item(func(it *impl.Item) { it.Token = mostTokens + 1 }),
		"first key twice": item(func(it *impl.Item) { it.Key = "a" }),
		"last key twice":  item(func(it *impl.Item) { it.Key = "c" }),
		"key far apart":   change(func(s *impl.Store) { s.Items[2].Key = "a" }),
		"token twice":     item(func(it *impl.Item) { it.Token = 4 }),
		"token far apart": change(func(s *impl.Store) { s.Items[2].Token = 4 }),
		"limit exceeded":  change(func(s *impl.Store) { s.Limit = 38 }),
		"limit 0":         change(func(s *impl.Store) { s.Limit = 0 }),
	}
	for what, s := range bad {
		wantNoStore(t, what, s)
	}
	full := fullStore()
	full.Limit--
	wantNoStore(t, "a full one of a limit that is one less", full)
	wantNoStore(t, "a great many items", impl.Store{Limit: impl.MaxLimit, Next: 2, Items: slices.Repeat([]impl.Item{{Key: "a", Token: 1}}, 100000)})
}

// Behind a list's length may lie what would make a store bad.
func TestStoreBehindLength(t *testing.T) {
	s := threeItems()
	s.Items = append(s.Items, impl.Item{Key: "a", Flags: -1, Token: 4})
	behind := s.Items
	s.Items = s.Items[:3]
	wantGood(t, "three with one behind", s)
	then, _, _ := done(t, s, 0, impl.Cmd{Name: "set", Keys: []string{"d"}})
	if behind[3] != (impl.Item{Key: "a", Flags: -1, Token: 4}) {
		t.Error("what lies behind the length was written")
	}
	if len(then.Items) != 4 || then.Items[3].Key != "d" {
		t.Error(then)
	}
	wantDone(t, s, 0, impl.Cmd{Name: "delete", Keys: []string{"a"}},
		impl.Store{Limit: 1000, Next: 9, Items: threeItems().Items[1:]}, "DELETED\r\n", 0)
	for _, it := range then.Items[:cap(then.Items)][len(then.Items):] {
		if it != (impl.Item{}) {
			t.Error("something is handed out behind the length", it)
		}
	}
}
