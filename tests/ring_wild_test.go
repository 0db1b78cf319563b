package tests

import (
	"slices"
	"strings"
	"testing"

	"loop.example/g00170/impl"
)

func owners(t *testing.T, l []impl.Node, keys []string) []string {
	t.Helper()
	var out []string
	for _, k := range keys {
		out = append(out, owner(t, l, k))
	}
	return out
}

// Promise 3: each key has one owner, which is one of the nodes; the shares are theirs.
func TestEachKeyHasOneOwner(t *testing.T) {
	n := &numbers{}
	for range 200 {
		l := wildNodes(n)
		keys := wildKeys(n, n.below(mostAsked+1))
		want := make([]int, len(l))
		for i, name := range owners(t, l, keys) {
			at := slices.Index(namesOf(l), name)
			if at < 0 {
				t.Fatalf("%q belongs to %q, which is none of %v", keys[i], name, l)
			}
			want[at]++
			wantOwner(t, slices.Clone(l), strings.Clone(keys[i]), name)
		}
		wantShares(t, l, keys, want...)
		sum := 0
		shares, _ := impl.SharesOf(l, keys)
		for _, many := range shares {
			sum += many
		}
		if sum != len(keys) {
			t.Errorf("the shares %v of %d keys", shares, len(keys))
		}
	}
}

// wantOnlyMoved says that each key that moves from few to more moves to the
// one that came, and that it moves from there on the way back.
func wantOnlyMoved(t *testing.T, few, more []impl.Node, came string, keys []string) int {
	t.Helper()
	moved := 0
	for _, k := range keys {
		before, after := owner(t, few, k), owner(t, more, k)
		if before != after {
			moved++
			if after != came {
				t.Fatalf("%q moves from %q to %q when %q comes to %v", k, before, after, came, few)
			}
		}
	}
	return moved
}

// Promise 3: when a node goes only its keys have another owner, and when one comes only keys that it owns now.
func TestFewKeysMove(t *testing.T) {
	n := &numbers{}
	moved, stayed := 0, 0
	for range 60 {
		l, keys := wildNodes(n), wildKeys(n, mostAsked)
		if len(l) == 1 {
			continue
		}
		for at, gone := range l {
			rest := without(l, at)
			many := wantOnlyMoved(t, rest, l, gone.Name, keys)
			shares, _ := impl.SharesOf(l, keys)
			if many != shares[at] {
				t.Fatalf("%d keys move when %v goes, which owned %d", many, gone, shares[at])
			}
			moved, stayed = moved+many, stayed+len(keys)-many
		}
	}
	if moved < 1000 || stayed < 1000 {
		t.Error(moved, stayed)
	}
}

// More weight draws keys from others, and moves none between them.
func TestFewKeysMoveByWeight(t *testing.T) {
	n := &numbers{}
	moved := 0
	for range 60 {
		l, keys := wildNodes(n), wildKeys(n, mostAsked)
		for at := range l {
			if l[at].Weight == impl.MaxWeight {
				continue
			}
			more := slices.Clone(l)
			more[at].Weight++
			moved += wantOnlyMoved(t, l, more, l[at].Name, keys)
		}
	}
	if moved < 100 {
		t.Error(moved)
	}
}

// A node with points that others share, at its going and its coming.
func TestFewKeysMoveAtSharedPoints(t *testing.T) {
	n := &numbers{}
	for weight := 1; weight <= impl.MaxWeight; weight++ {
		l := []impl.Node{{Name: "basqtggv", Weight: weight}, {Name: "m", Weight: 1}, {Name: "ojcsaaxx", Weight: 3}, {Name: "rhxm", Weight: weight}, {Name: "uczl", Weight: 2}}
		keys := wildKeys(n, 300)
		for at, gone := range l {
			wantOnlyMoved(t, without(l, at), l, gone.Name, keys)
		}
		for _, k := range keys {
			wantOwner(t, l, k, slowOwner(l, k))
		}
	}
}

// MovedKeys are just the keys whose owner is another one, in order, as often as they stand.
func TestMovedKeysByTheirOwners(t *testing.T) {
	n := &numbers{}
	some, all := 0, 0
	for range 300 {
		a, b := wildNodes(n), wildNodes(n)
		switch n.below(3) {
		case 0:
			b = slices.Clone(a)
			b[n.below(len(b))].Weight = 1 + n.below(impl.MaxWeight)
		case 1:
			if len(a) > 1 {
				b = without(a, n.below(len(a)))
			}
		}
		keys := wildKeys(n, n.below(mostAsked+1))
		var want []string
		for _, k := range keys {
			if slowOwner(a, k) != slowOwner(b, k) {
				want = append(want, k)
			}
		}
		wantMoved(t, a, b, keys, want)
		wantMoved(t, b, a, keys, want)
		if len(want) == len(keys) {
			all++
		} else if len(want) > 0 {
			some++
		}
	}
	if some < 50 || all < 20 {
		t.Error(some, all)
	}
}

// brokenNodes are good, or one step away from it.
func brokenNodes(n *numbers) []impl.Node {
	l := wildNodes(n)
	if n.below(2) == 0 {
		return l
	}
	at := n.below(len(l))
	switch n.below(6) {
	case 0:
		l[at].Weight = pick(n, []int{-1 << 63, -1, 0, 1, 5, 6, 1<<63 - 1})
	case 1:
		l[at].Name = pick(n, []string{"", "a", "A", "a-", "é", "zzzzzzzz", "zzzzzzzzz", "a\n", "0"})
	case 2:
		other := n.below(len(l))
		l[at], l[other] = l[other], l[at]
	case 3:
		l = slices.Insert(l, at, l[at])
	case 4:
		for i := range impl.MaxNodes {
			l = append(l, impl.Node{Name: "zzzzzz" + twoDigits(i), Weight: 1})
		}
	case 5:
		return nil
	}
	return l
}

func brokenKeys(n *numbers) []string {
	keys := wildKeys(n, pick(n, []int{0, 1, 2, 10, mostAsked, mostAsked + 1}))
	if len(keys) > 0 && n.below(3) == 0 {
		keys[n.below(len(keys))] = pick(n, []string{"", " ", "a", key(impl.MaxKey), key(impl.MaxKey + 1), "\x7f", "\n"})
	}
	return keys
}

// Promise 10: whatever nodes and keys are, there is an answer, and it is the zero answer unless all are good.
func TestAnyNodesAndKeys(t *testing.T) {
	n := &numbers{}
	good, bad := 0, 0
	for range 3000 {
		a, b, keys := brokenNodes(n), brokenNodes(n), brokenKeys(n)
		beforeA, beforeB, beforeKeys := slices.Clone(a), slices.Clone(b), slices.Clone(keys)
		goodA, goodKeys := slowGoodNodes(a), len(keys) <= mostAsked && !slices.ContainsFunc(keys, func(k string) bool { return !impl.GoodKey(k) })
		if impl.GoodNodes(a) != goodA {
			t.Fatalf("GoodNodes(%v) = %v", a, !goodA)
		}
		if !goodA {
			wantNoNodes(t, "any nodes", a)
		}
		if goodA && goodKeys {
			want := make([]int, len(a))
			for _, k := range keys {
				want[slices.Index(namesOf(a), slowOwner(a, k))]++
			}
			wantShares(t, a, keys, want...)
		} else {
			wantNoShares(t, "any keys", a, keys)
		}
		moved, ok := impl.MovedKeys(a, b, keys)
		if ok != (goodA && slowGoodNodes(b) && goodKeys) || !ok && len(moved) > 0 {
			t.Fatalf("MovedKeys(%v, %v, %q) = %q, %v", a, b, keys, moved, ok)
		}
		if ok {
			good++
		} else {
			bad++
		}
		if !slices.Equal(a, beforeA) || !slices.Equal(b, beforeB) || !slices.Equal(keys, beforeKeys) {
			t.Fatalf("the arguments became %v, %v, %q", a, b, keys)
		}
	}
	if good < 300 || bad < 300 {
		t.Error(good, bad)
	}
}

// Promise 10: what is answered is new memory, and each answer its own.
func TestRingAnswersAreNew(t *testing.T) {
	n := &numbers{}
	for range 100 {
		a, b, keys := wildNodes(n), wildNodes(n), wildKeys(n, mostAsked)
		given := slices.Concat(namesOf(a), namesOf(b), keys)
		r, _ := impl.RingOf(a)
		again, _ := impl.RingOf(a)
		if sameList(r, again) {
			t.Fatal("two rings lie in one memory")
		}
		var texts []string
		for _, p := range r {
			texts = append(texts, p.Name)
		}
		texts = append(texts, owner(t, a, keys[0]))
		moved, _ := impl.MovedKeys(a, b, keys)
		if sharesOne(append(texts, moved...), given) || sameList(moved, keys) {
			t.Fatal("an answer lies in the arguments")
		}
		shares, _ := impl.SharesOf(a, keys)
		others, _ := impl.SharesOf(a, keys)
		if sameList(shares, others) {
			t.Fatal("two lists of shares lie in one memory")
		}
	}
}

// What lies behind a list's length is neither read nor written.
func TestBehindTheListsOfTheRing(t *testing.T) {
	nodes := append(twoNodes(), impl.Node{Name: "c", Weight: 5}, impl.Node{Name: "", Weight: -1})
	keys := append(keysOf(mostAsked), "k61", "", "not a key")
	nodesBefore, keysBefore := slices.Clone(nodes), slices.Clone(keys)
	few, asked := nodes[:2], keys[:mostAsked]
	if r, ok := impl.RingOf(few); len(r) != 24 || !ok || !impl.GoodNodes(few) {
		t.Errorf("RingOf = %v, %v", r, ok)
	}
	wantOwner(t, few, "k1", "a")
	moved, _ := impl.MovedKeys(twoNodes(), eightNodes(1), keysOf(mostAsked))
	wantMoved(t, few, eightNodes(1), asked, moved)
	wantMoved(t, eightNodes(1), few, asked, moved)
	shares, _ := impl.SharesOf(twoNodes(), keysOf(mostAsked))
	wantShares(t, few, asked, shares...)
	if !slices.Equal(nodes, nodesBefore) || !slices.Equal(keys, keysBefore) {
		t.Errorf("the arguments became %v, %q", nodes, keys)
	}
}
