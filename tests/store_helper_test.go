package tests

import (
	"reflect"
	"slices"
	"strings"
	"testing"

	"loop.example/g00170/impl"
)

// mostTokens is the document's own number for how far Token and Next may go.
const mostTokens = 1000000000

func sameStore(a, b impl.Store) bool {
	return a.Limit == b.Limit && a.Next == b.Next && slices.Equal(a.Items, b.Items)
}

// wantStore also says that the store is good, with charges of at most Limit.
func wantStore(t *testing.T, what string, got, want impl.Store) {
	t.Helper()
	if !sameStore(got, want) {
		t.Errorf("%s: the store is %+v; want %+v", what, got, want)
	}
	wantGood(t, what, got)
}

func wantGood(t *testing.T, what string, s impl.Store) {
	t.Helper()
	charge, ok := impl.ChargeOf(s)
	if !impl.GoodStore(s) || !ok || charge > s.Limit || charge != chargeByHand(s.Items) {
		t.Errorf("%s: the store %+v is not good, or its charge is not %d, true", what, s, charge)
	}
}

func chargeByHand(items []impl.Item) int {
	sum := 0
	for _, it := range items {
		sum += len(it.Key) + len(it.Data) + 10
	}
	return sum
}

// done runs a command that must be taken.
func done(t *testing.T, s impl.Store, now int, c impl.Cmd) (impl.Store, string, int) {
	t.Helper()
	then, answer, lost, ok := impl.DoStore(s, now, c)
	if !ok {
		t.Fatalf("DoStore(%+v, %d, %+v) says false", s, now, c)
	}
	return then, answer, lost
}

// wantDone holds a command's whole answer against what is wanted.
func wantDone(t *testing.T, s impl.Store, now int, c impl.Cmd, want impl.Store, answer string, lost int) {
	t.Helper()
	then, text, gone := done(t, s, now, c)
	what := c.Name + " " + strings.Join(c.Keys, " ")
	wantStore(t, what, then, want)
	if text != answer || gone != lost {
		t.Errorf("%s: answers %q and %d forgotten; want %q and %d", what, text, gone, answer, lost)
	}
}

// wantNoStore asks all functions of a store that must not be taken.
func wantNoStore(t *testing.T, what string, s impl.Store) {
	t.Helper()
	if impl.GoodStore(s) {
		t.Errorf("%s: GoodStore says true", what)
	}
	if n, ok := impl.ChargeOf(s); n != 0 || ok {
		t.Errorf("%s: ChargeOf = %d, %v", what, n, ok)
	}
	if then, n, ok := impl.DropOld(s, 0); !reflect.DeepEqual(then, impl.Store{}) || n != 0 || ok {
		t.Errorf("%s: DropOld = %+v, %d, %v", what, then, n, ok)
	}
	k := "a"
	if len(s.Items) > 0 {
		k = s.Items[0].Key
	}
	if it, ok := impl.FindItem(s, 0, k); it != (impl.Item{}) || ok {
		t.Errorf("%s: FindItem = %+v, %v", what, it, ok)
	}
	for _, c := range []impl.Cmd{{Name: "version"}, {Name: "flush_all"}, {Name: "get", Keys: []string{"a"}}, {Name: "set", Keys: []string{"a"}}} {
		wantNotDone(t, what, s, 0, c)
	}
}

func wantNotDone(t *testing.T, what string, s impl.Store, now int, c impl.Cmd) {
	t.Helper()
	then, answer, lost, ok := impl.DoStore(s, now, c)
	if !reflect.DeepEqual(then, impl.Store{}) || answer != "" || lost != 0 || ok {
		t.Errorf("%s: DoStore of %+v = %+v, %q, %d, %v", what, c, then, answer, lost, ok)
	}
}

// threeItems is a good store with room: a is old behind 100, b never, c behind 50.
func threeItems() impl.Store {
	return impl.Store{Limit: 1000, Next: 9, Items: []impl.Item{
		{Key: "a", Flags: 1, Data: "alpha", Until: 100, Token: 4},
		{Key: "b", Flags: 2, Data: "7", Token: 8},
		{Key: "c", Flags: 3, Data: "", Until: 50, Token: 2},
	}}
}

// fullStore has MaxItems items of the charge 12, "00" used longest ago, and room for nothing more.
func fullStore() impl.Store {
	s := impl.Store{Limit: 12 * impl.MaxItems, Next: impl.MaxItems + 1}
	for i := range impl.MaxItems {
		s.Items = append(s.Items, impl.Item{Key: twoDigits(i), Token: i + 1})
	}
	return s
}

func twoDigits(i int) string {
	return string([]byte{'0' + byte(i/10), '0' + byte(i%10)})
}

// storeTexts are all texts of a store, to be asked whose memory they are in.
func storeTexts(s impl.Store) []string {
	var out []string
	for _, it := range s.Items {
		out = append(out, it.Key, it.Data)
	}
	return out
}

func copyOfStore(s impl.Store) impl.Store {
	s.Items = slices.Clone(s.Items)
	for i, it := range s.Items {
		s.Items[i].Key, s.Items[i].Data = strings.Clone(it.Key), strings.Clone(it.Data)
	}
	return s
}

func sharesOne(parts, wholes []string) bool {
	for _, p := range parts {
		for _, w := range wholes {
			if shares(p, w) {
				return true
			}
		}
	}
	return false
}
