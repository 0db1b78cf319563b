package tests

import (
	"math"
	"slices"
	"testing"

	"loop.example/g00170/impl"
)

// Names that stay keep their stores, those that come have empty ones, those that go are still there.
func TestBeginMove(t *testing.T) {
	c := atRest()
	want := copyOfCluster(c)
	want.Coming = laterNodes()
	want.Places = append(want.Places, emptyPlace("c"))
	wantCluster(t, "to b and c", begun(t, c, laterNodes()), want)
	want = copyOfCluster(c)
	want.Coming = []impl.Node{{Name: "0", Weight: 1}, {Name: "aa", Weight: 2}, {Name: "b", Weight: 1}, {Name: "z", Weight: 5}}
	want.Places = []impl.Place{emptyPlace("0"), c.Places[0], emptyPlace("aa"), c.Places[1], emptyPlace("z")}
	wantCluster(t, "between them", begun(t, c, want.Coming), want)
}

// Nodes are other ones if a name or a weight is.
func TestBeginMoveToNearlyTheSame(t *testing.T) {
	c := atRest()
	wantNoBegin(t, "the same nodes", c, twoNodes())
	for _, nodes := range [][]impl.Node{
		{{Name: "a", Weight: 2}, {Name: "b", Weight: 2}}, {{Name: "a", Weight: 1}, {Name: "b", Weight: 1}},
		{{Name: "a", Weight: 1}}, {{Name: "b", Weight: 2}}, {{Name: "a", Weight: 1}, {Name: "c", Weight: 2}},
	} {
		then := begun(t, c, nodes)
		if !slices.Equal(then.Coming, nodes) || !slices.Equal(then.Nodes, twoNodes()) {
			t.Errorf("%v are coming to %v", then.Coming, then.Nodes)
		}
	}
	three := append(twoNodes(), impl.Node{Name: "c", Weight: 1})
	if then := begun(t, c, three); len(then.Places) != 3 {
		t.Error(then.Places)
	}
}

func TestNoBeginMove(t *testing.T) {
	moving := halfMoved()
	for _, nodes := range [][]impl.Node{twoNodes(), laterNodes(), eightNodes(1), oneNode("a")} {
		wantNoBegin(t, "it moves already", moving, nodes)
	}
	for what, nodes := range notNodes() {
		wantNoBegin(t, what, atRest(), nodes)
		wantNoBegin(t, what, moving, nodes)
	}
}

// What is told till the end of a move is told by the same answers behind it.
func TestAWholeMove(t *testing.T) {
	c := atRest()
	all := askFor([]string{"k1", "k2", "k3", "foo"}, true)
	_, before := doneIn(t, c, all)
	c = begun(t, c, laterNodes())
	wantDoneIn(t, c, all, before)
	c, _ = copied(t, c, 1)
	wantDoneIn(t, c, all, before)
	wantNoEnd(t, "some are left", c)
	c, _ = copied(t, c, mostCopied)
	wantDoneIn(t, c, all, before)
	c = ended(t, c)
	wantDoneIn(t, c, all, before)
	if !slices.Equal(c.Nodes, laterNodes()) || len(c.Coming) != 0 || len(c.Places) != 2 || c.Next != 20 || c.Lost != 2 {
		t.Error(c)
	}
	wantNoEnd(t, "it moves no more", c)
	c = begun(t, c, twoNodes())
	c, _ = copied(t, c, mostCopied)
	wantDoneIn(t, ended(t, c), all, before)
}

// The first place by name, of it the first item that is left, and so on; what has come or stays is passed over.
func TestWhichAreCopied(t *testing.T) {
	c := halfMoved()
	a, b, far := c.Places[0].Store.Items, c.Places[1].Store.Items, c.Places[2].Store.Items
	for many, want := range [][][]impl.Item{
		{a, b, far},
		{a[1:], append(slices.Clone(b), a[0]), far},
		{nil, append(slices.Clone(b), a[0]), append(slices.Clone(far), a[1])},
		{nil, {b[0], b[2], a[0]}, append(slices.Clone(far), a[1], b[1])},
	} {
		then, moved := copied(t, c, many)
		if moved != many {
			t.Errorf("CopySome of %d tells %d", many, moved)
		}
		for i, name := range []string{"a", "b", "c"} {
			wantItemsAt(t, "copied", then, name, want[i]...)
		}
		if then.Next != c.Next || then.Lost != c.Lost || then.Now != c.Now || !slices.Equal(then.Nodes, c.Nodes) || !slices.Equal(then.Coming, c.Coming) {
			t.Errorf("the cluster is %+v", then)
		}
	}
	most, _ := copied(t, c, 3)
	for _, many := range []int{4, 5, 99, mostCopied} {
		then, moved := copied(t, c, many)
		wantCluster(t, "fewer than many", then, most)
		if moved != 3 {
			t.Errorf("CopySome of %d tells %d", many, moved)
		}
		again, none := copied(t, then, many)
		wantCluster(t, "none left", again, most)
		if none != 0 {
			t.Error(none)
		}
	}
}

func TestNoCopySome(t *testing.T) {
	for _, many := range []int{-1, mostCopied + 1, math.MinInt, math.MaxInt} {
		wantNoCopy(t, "many", halfMoved(), many)
		wantNoCopy(t, "many", atRest(), many)
	}
	for _, many := range []int{0, 1, mostCopied} {
		wantNoCopy(t, "nothing is coming", atRest(), many)
		wantNoCopy(t, "nothing is coming", newCluster(t, oneNode("a"), 0), many)
	}
}

// manyToMove has MaxItems at each of two places, all of which go to others of eight.
func manyToMove(t *testing.T) impl.Cluster {
	t.Helper()
	later := eightNodes(5)
	items := map[string][]impl.Item{}
	for i := 1; len(items["a"]) < impl.MaxItems || len(items["b"]) < impl.MaxItems; i++ {
		k := "key" + key(i%20) + twoDigits(i/100) + twoDigits(i%100)
		at := owner(t, twoNodes(), k)
		if len(items[at]) < impl.MaxItems {
			items[at] = append(items[at], impl.Item{Key: k, Token: i})
		}
	}
	return placed(twoNodes(), later, impl.MaxLimit, mostTokens, items)
}

// One hundred at most are moved at once, though there are more.
func TestCopyAHundred(t *testing.T) {
	c := manyToMove(t)
	first := len(storeAt(t, c, "a").Items)
	then, moved := copied(t, c, 99)
	if moved != 99 || len(storeAt(t, then, "a").Items) != 0 || len(storeAt(t, then, "b").Items) != 2*impl.MaxItems-99 {
		t.Error(moved, first)
	}
	then, moved = copied(t, c, mostCopied)
	want, _ := slowCopy(c, mostCopied)
	wantCluster(t, "a hundred", then, want)
	if moved != mostCopied || len(storeAt(t, then, "b").Items) != 2*impl.MaxItems-mostCopied {
		t.Error(moved)
	}
	wantNoEnd(t, "twenty are left", then)
	then, moved = copied(t, then, mostCopied)
	if moved != 20 || then.Lost != 0 || len(itemsIn(then)) != 2*impl.MaxItems {
		t.Error(moved, then.Lost)
	}
	if then = ended(t, then); len(then.Places) != impl.MaxNodes {
		t.Error(then.Places)
	}
}

// What is forgotten at a place for what has come there is moved no more: others take its turn.
func TestCopyPassesOverWhatWasForgotten(t *testing.T) {
	ab, bc := keysGoing(twoNodes(), laterNodes(), "a", "b", 1)[0], keysGoing(twoNodes(), laterNodes(), "b", "c", 3)
	come := sized(ab, 50, 1)
	left := []impl.Item{sized(bc[0], 40, 2), sized(bc[1], 30, 3), sized(bc[2], 20, 4)}
	c := placed(twoNodes(), laterNodes(), 100, 20, map[string][]impl.Item{"a": {come}, "b": left})
	then, moved := copied(t, c, 2)
	wantItemsAt(t, "copied", then, "b", left[2], come)
	wantItemsAt(t, "copied", then, "c", left[1])
	if moved != 2 || then.Lost != 1 {
		t.Error(moved, then.Lost)
	}
	then, moved = copied(t, c, mostCopied)
	wantItemsAt(t, "copied", then, "b", come)
	wantItemsAt(t, "copied", then, "c", left[1], left[2])
	if moved != 3 || then.Lost != 1 {
		t.Error(moved, then.Lost)
	}
}

// Old ones are not copied, and don't count: they go, also if none is to be copied.
func TestCopyOfOldOnes(t *testing.T) {
	c := halfMoved()
	a, b := c.Places[0].Store.Items, c.Places[1].Store.Items
	c.Places[0].Store.Items[0].Until, c.Places[1].Store.Items[2].Until, c.Places[2].Store.Items[0].Until = 10, 9, 10
	then, moved := copied(t, c, 0)
	wantItemsAt(t, "none", then, "a", a[1])
	wantItemsAt(t, "none", then, "b", b[0], b[1])
	wantItemsAt(t, "none", then, "c", c.Places[2].Store.Items[1])
	if moved != 0 || then.Lost != c.Lost {
		t.Error(moved, then.Lost)
	}
	then, moved = copied(t, c, 1)
	wantItemsAt(t, "one", then, "a")
	wantItemsAt(t, "one", then, "c", c.Places[2].Store.Items[1], a[1])
	if moved != 1 {
		t.Error(moved)
	}
	_, moved = copied(t, c, mostCopied)
	if moved != 2 {
		t.Error(moved)
	}
}

func TestEndMove(t *testing.T) {
	wantNoEnd(t, "nothing is coming", atRest())
	wantNoEnd(t, "some are left", halfMoved())
	c := placed(twoNodes(), laterNodes(), 1000, 20, map[string][]impl.Item{
		"b": {val(going("a", "b"), 7), val(going("b", "b"), 5)},
		"c": {val(going("a", "c"), 4), val(going("b", "c"), 6)},
	})
	c.Now, c.Lost = 10, 2
	want := copyOfCluster(c)
	want.Nodes, want.Coming, want.Places = laterNodes(), nil, want.Places[1:]
	wantCluster(t, "all have come", ended(t, c), want)
	for _, one := range []struct{ at, to string }{{"a", "b"}, {"a", "c"}, {"b", "c"}} {
		k := keysGoing(twoNodes(), laterNodes(), one.at, one.to, 2)[1]
		left := copyOfCluster(c)
		i := slices.Index([]string{"a", "b", "c"}, one.at)
		left.Places[i].Store.Items = append(left.Places[i].Store.Items, val(k, 9))
		wantNoEnd(t, "one is left", left)
		left.Places[i].Store.Items[len(left.Places[i].Store.Items)-1].Until = 11
		wantNoEnd(t, "one is left that is nearly old", left)
		left.Places[i].Store.Items[len(left.Places[i].Store.Items)-1].Until = 10
		wantCluster(t, "just an old one was left", ended(t, left), want)
	}
	old := copyOfCluster(c)
	old.Places[1].Store.Items[0].Until = 10
	want.Places[0].Store.Items = want.Places[0].Store.Items[1:]
	wantCluster(t, "what is old has gone", ended(t, old), want)
}

// A move to other weights of the same names, to nodes of no name that was there, and of a cluster without keys.
func TestEndOfOtherMoves(t *testing.T) {
	c := newCluster(t, twoNodes(), 100)
	for _, nodes := range [][]impl.Node{{{Name: "a", Weight: 5}, {Name: "b", Weight: 5}}, eightNodes(2), oneNode("b"), oneNode("0")} {
		wantCluster(t, "no keys", ended(t, begun(t, c, nodes)), placed(nodes, nil, 100, 1, nil))
	}
	same := atRest()
	same.Coming = twoNodes()
	wantCluster(t, "the same nodes were coming", ended(t, same), atRest())
}

func TestCrashNode(t *testing.T) {
	for _, c := range []impl.Cluster{atRest(), halfMoved()} {
		for i, p := range c.Places {
			want := copyOfCluster(c)
			want.Places[i].Store.Items = nil
			then, had := crashed(t, c, p.Name)
			wantCluster(t, "crashed "+p.Name, then, want)
			if had != len(p.Store.Items) {
				t.Errorf("%s had %d", p.Name, had)
			}
			again, none := crashed(t, then, p.Name)
			wantCluster(t, "crashed again", again, want)
			if none != 0 {
				t.Errorf("%s had %d", p.Name, none)
			}
		}
		for _, name := range []string{"", "A", "aa", "d", "a ", "a-0", "k1", "ab", "\x00", key(1000)} {
			wantNoCrash(t, "no place", c, name)
		}
	}
	wantNoCrash(t, "c is not coming", atRest(), "c")
	c, had := crashed(t, halfMoved(), "a")
	if c, moved := copied(t, c, mostCopied); moved != 1 || had != 2 {
		t.Error(c, moved, had)
	}
}

func TestTickCluster(t *testing.T) {
	c := halfMoved()
	for _, by := range []int{0, 1, 500, impl.MaxNow - 11, impl.MaxNow - 10} {
		want := copyOfCluster(c)
		want.Now = 10 + by
		wantCluster(t, "a tick", ticked(t, c, by), want)
	}
	for _, by := range []int{impl.MaxNow - 9, impl.MaxNow - 1, impl.MaxNow} {
		want := copyOfCluster(c)
		want.Now = impl.MaxNow
		wantCluster(t, "a tick beyond", ticked(t, c, by), want)
	}
	for _, by := range []int{-1, impl.MaxNow + 1, math.MinInt, math.MaxInt} {
		wantNoTick(t, "by", c, by)
		wantNoTick(t, "by", atRest(), by)
	}
	last := atRest()
	last.Now = impl.MaxNow
	wantCluster(t, "at the end", ticked(t, last, 1), last)
}

// What is old then goes, in all places; what is old already goes also by 0.
func TestTickMakesOld(t *testing.T) {
	c := atRest()
	c.Places[0].Store.Items[0].Until, c.Places[0].Store.Items[1].Until = 10, 15
	c.Places[1].Store.Items[0].Until, c.Places[1].Store.Items[1].Until = 16, 2*impl.MaxNumber
	a, b := c.Places[0].Store.Items, c.Places[1].Store.Items
	for _, f := range []struct {
		by     int
		aa, bb []impl.Item
	}{{0, a[1:], b}, {4, a[1:], b}, {5, nil, b}, {6, nil, b[1:]}, {impl.MaxNow, nil, b[1:]}} {
		then := ticked(t, c, f.by)
		wantItemsAt(t, "ticked", then, "a", f.aa...)
		wantItemsAt(t, "ticked", then, "b", f.bb...)
		if then.Lost != c.Lost || then.Next != c.Next {
			t.Error(then)
		}
	}
}

// Expire counts from the cluster's Now.
func TestExpireInACluster(t *testing.T) {
	c := ticked(t, newCluster(t, twoNodes(), 1000), 7)
	for _, k := range []string{"k1", "k2"} {
		c = wantDoneIn(t, c, impl.Cmd{Name: "set", Keys: []string{k}, Expire: 3, Data: "v"}, "STORED\r\n")
	}
	c = ticked(t, c, 2)
	wantPlaces(t, c, "k1", "a")
	wantPlaces(t, c, "k2", "b")
	c = wantDoneIn(t, c, impl.Cmd{Name: "touch", Keys: []string{"k2"}, Expire: 2}, "TOUCHED\r\n")
	c = ticked(t, c, 1)
	wantPlaces(t, c, "k1")
	wantPlaces(t, c, "k2", "b")
	wantPlaces(t, ticked(t, c, 1), "k2")
}

func TestPlacesOf(t *testing.T) {
	for _, c := range []impl.Cluster{atRest(), halfMoved()} {
		for _, p := range c.Places {
			for _, it := range p.Store.Items {
				wantPlaces(t, c, it.Key, p.Name)
			}
		}
		for _, k := range []string{"none", "!", "~", key(impl.MaxKey), "a", "b"} {
			wantPlaces(t, c, k)
		}
		for _, k := range []string{"", " ", "k1 ", "a b", "\n", "\x7f", "é", key(impl.MaxKey + 1)} {
			wantNoPlaces(t, "no key", c, k)
		}
	}
	c := atRest()
	for until, names := range map[int][]string{0: {"a"}, 1: nil, 9: nil, 10: nil, 11: {"a"}, 2 * impl.MaxNumber: {"a"}} {
		c.Places[0].Store.Items[0].Until = until
		wantPlaces(t, c, "k1", names...)
	}
}

// To begin a move and to crash say nothing of what is old: it stays, and is counted with the items that a place had.
func TestOldItemsAtBeginAndCrash(t *testing.T) {
	c := atRest()
	c.Places[0].Store.Items[0].Until, c.Places[1].Store.Items[1].Until = 10, 10
	then := begun(t, c, laterNodes())
	if !slices.Equal(itemsIn(then), itemsIn(c)) {
		t.Error(then)
	}
	then, had := crashed(t, c, "a")
	if had != 2 || !slices.Equal(itemsIn(then), c.Places[1].Store.Items) {
		t.Error(then, had)
	}
}
