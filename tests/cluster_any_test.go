package tests

import (
	"math"
	"slices"
	"strings"
	"testing"

	"loop.example/g00170/impl"
)

// drawnCluster is a good one, by some steps from a new one; most of them move.
func drawnCluster(t *testing.T, n *numbers) impl.Cluster {
	t.Helper()
	c := wildStart(t, n)
	for range n.below(6) {
		c, _ = wildStep(t, n, c, 30)
	}
	c, _ = stepFill(t, n, c, 30)
	if nodes := otherNodes(n, c.Nodes); len(c.Coming) == 0 && !slices.Equal(nodes, c.Nodes) {
		c = begun(t, c, nodes)
	}
	return c
}

// broken is a cluster that is good, or a step away from it.
func broken(n *numbers, from impl.Cluster) impl.Cluster {
	c := copyOfCluster(from)
	at := n.below(len(c.Places))
	s := &c.Places[at].Store
	switch n.below(14) {
	case 0:
		c.Now = pick(n, []int{math.MinInt, -1, 0, impl.MaxNow, impl.MaxNow + 1})
	case 1:
		c.Next = pick(n, []int{-1, 0, 1, c.Next - 1, c.Next + 1, mostTokens, mostTokens + 1})
	case 2:
		c.Limit = pick(n, []int{-1, 0, c.Limit - 1, c.Limit + 1, impl.MaxLimit + 1})
	case 3:
		c.Lost = pick(n, []int{-1, 0, mostLost, mostLost + 1, math.MaxInt})
	case 4:
		c.Nodes = brokenNodes(n)
	case 5:
		c.Coming = pick(n, [][]impl.Node{nil, {}, c.Nodes, brokenNodes(n)})
	case 6:
		c.Places = slices.Delete(c.Places, at, at+1)
	case 7:
		c.Places = slices.Insert(c.Places, at, impl.Place{Name: pick(n, []string{"", "0", "zzzzzzzz", c.Places[at].Name}), Store: impl.Store{Limit: c.Limit, Next: 1}})
	case 8:
		other := n.below(len(c.Places))
		c.Places[at], c.Places[other] = c.Places[other], c.Places[at]
	case 9:
		s.Limit += n.below(3) - 1
	case 10:
		s.Next = pick(n, []int{0, 1, s.Next, c.Next, c.Next + 1})
	case 11:
		*s = wildStore(n)
		s.Limit = c.Limit
	case 12:
		changeItem(n, c, s)
	}
	return c
}

// changeItem takes a key, a token or an item from another place, or none.
func changeItem(n *numbers, c impl.Cluster, s *impl.Store) {
	all := itemsIn(c)
	if len(all) == 0 {
		return
	}
	other := pick(n, all)
	if len(s.Items) == 0 || n.below(3) == 0 {
		s.Items = append(s.Items, other)
		return
	}
	it := &s.Items[n.below(len(s.Items))]
	switch n.below(5) {
	case 0:
		it.Key = other.Key
	case 1:
		it.Token = other.Token
	case 2:
		it.Until = pick(n, []int{-1, 0, c.Now, c.Now + 1, 2*impl.MaxNumber + 1})
	case 3:
		it.Key = pick(n, []string{"", "k1", "k2", key(impl.MaxKey + 1)})
	case 4:
		it.Token = pick(n, []int{0, s.Next - 1, s.Next, c.Next})
	}
}

// Promise 10: whatever the cluster is, each function answers: as the slow telling, or the zero answer where the cluster is not good.
func TestAnyCluster(t *testing.T) {
	n := &numbers{}
	good, bad := 0, 0
	for range 120 {
		from := drawnCluster(t, n)
		for range 25 {
			c := broken(n, from)
			before := copyOfCluster(c)
			isGood := slowGoodCluster(c)
			if impl.GoodCluster(c) != isGood {
				t.Fatalf("GoodCluster(%+v) = %v", c, !isGood)
			}
			if isGood {
				good++
				wildStep(t, n, c, 30)
				stepEnd(t, c)
				stepCopy(t, c, n.below(mostCopied+1))
			} else {
				bad++
				wantNoCluster(t, "any cluster", c)
			}
			if !sameCluster(c, before) {
				t.Fatalf("the argument became %+v; it was %+v", c, before)
			}
			if t.Failed() {
				return
			}
		}
	}
	if good < 300 || bad < 300 {
		t.Error(good, bad)
	}
}

// answersOf are the clusters that the functions answer to one, with each kind of command among them.
func answersOf(t *testing.T, c impl.Cluster, nodes []impl.Node) []impl.Cluster {
	t.Helper()
	var out []impl.Cluster
	keep := func(then impl.Cluster, ok bool) {
		if ok {
			out = append(out, then)
		}
	}
	for _, cmd := range everyKind() {
		then, _, ok := impl.DoCluster(c, cmd)
		keep(then, ok)
	}
	keep(impl.NewCluster(nodes, c.Limit))
	keep(impl.BeginMove(c, nodes))
	for _, many := range []int{0, 1, mostCopied} {
		then, _, ok := impl.CopySome(c, many)
		keep(then, ok)
	}
	keep(impl.EndMove(c))
	then, _, ok := impl.CrashNode(c, c.Places[0].Name)
	keep(then, ok)
	for _, by := range []int{0, 1, impl.MaxNow} {
		keep(impl.TickCluster(c, by))
	}
	return out
}

// wantNewMemory says that no text and no list of an answer lies in an argument, and no two lists of it in one another.
func wantNewMemory(t *testing.T, then, given impl.Cluster, nodes []impl.Node) {
	t.Helper()
	texts := append(clusterTexts(given), namesOf(nodes)...)
	if sharesOne(clusterTexts(then), texts) {
		t.Errorf("a text of %+v lies in the arguments", then)
	}
	for _, l := range [][]impl.Node{given.Nodes, given.Coming, nodes} {
		if sameList(then.Nodes, l) || sameList(then.Coming, l) {
			t.Errorf("the nodes of %+v lie in the arguments", then)
		}
	}
	if sameList(then.Places, given.Places) || sameList(then.Nodes, then.Coming) {
		t.Errorf("a list of %+v is another one", then)
	}
	for i, p := range then.Places {
		for _, other := range slices.Concat(given.Places, then.Places[:i]) {
			if sameList(p.Store.Items, other.Store.Items) {
				t.Errorf("the items at %s and %s share their memory", p.Name, other.Name)
			}
		}
	}
}

func TestClusterAnswersAreNew(t *testing.T) {
	all := copyOfCluster(halfMoved())
	all, _ = copied(t, all, mostCopied)
	for _, c := range []impl.Cluster{halfMoved(), atRest(), all} {
		c, nodes := copyOfCluster(c), copyOfNodes(eightNodes(2))
		before := copyOfCluster(c)
		for _, then := range answersOf(t, c, nodes) {
			wantNewMemory(t, then, c, nodes)
		}
		wantCluster(t, "the argument", c, before)
		for _, it := range itemsIn(c) {
			names, _ := impl.PlacesOf(c, it.Key)
			if sharesOne(names, clusterTexts(c)) {
				t.Errorf("%q lies in the arguments", names)
			}
		}
	}
}

// What a command brings is stored and told in new memory.
func TestClusterTextsAreNew(t *testing.T) {
	for _, from := range []impl.Cluster{atRest(), halfMoved()} {
		c := copyOfCluster(from)
		for _, it := range append(itemsIn(c), val("new", 0)) {
			for _, name := range []string{"set", "append", "prepend", "replace", "add"} {
				cmd := impl.Cmd{Name: name, Keys: []string{strings.Clone(it.Key)}, Data: strings.Clone("brought")}
				then, _ := doneIn(t, c, cmd)
				if sharesOne(clusterTexts(then), append(clusterTexts(c), cmd.Keys[0], cmd.Data)) {
					t.Errorf("%s of %s lies in the arguments", name, it.Key)
				}
			}
			ask := askFor([]string{strings.Clone(it.Key)}, true)
			_, answer := doneIn(t, c, ask)
			if sharesOne([]string{answer}, append(clusterTexts(c), ask.Keys[0])) {
				t.Errorf("the answer to %s lies in the arguments", it.Key)
			}
		}
	}
}

// behind lays more behind each list of a cluster.
func behind(c impl.Cluster) impl.Cluster {
	node := impl.Node{Name: "behind", Weight: 1}
	c.Nodes = append(slices.Clone(c.Nodes), node, node)[:len(c.Nodes)]
	c.Coming = append(slices.Clone(c.Coming), node, node)[:len(c.Coming)]
	c.Places = append(slices.Clone(c.Places), impl.Place{Name: "behind"}, impl.Place{Name: "behind"})[:len(c.Places)]
	for i := range c.Places {
		s := &c.Places[i].Store
		s.Items = append(slices.Clone(s.Items), impl.Item{Key: "behind"}, impl.Item{Key: "behind"})[:len(s.Items)]
	}
	return c
}

// whole is a cluster with all that lies behind its lists.
func whole(c impl.Cluster) impl.Cluster {
	c.Nodes, c.Coming = c.Nodes[:cap(c.Nodes)], c.Coming[:cap(c.Coming)]
	c.Places = slices.Clone(c.Places[:cap(c.Places)])
	for i := range c.Places {
		c.Places[i].Store.Items = c.Places[i].Store.Items[:cap(c.Places[i].Store.Items)]
	}
	return c
}

// What lies behind a list's length is neither read, nor written, nor handed out.
func TestBehindTheListsOfACluster(t *testing.T) {
	for _, from := range []impl.Cluster{atRest(), halfMoved()} {
		c := behind(from)
		nodes := append(eightNodes(1), impl.Node{Name: "behind"})
		before := copyOfCluster(whole(c))
		wantGoodCluster(t, "with more behind", c)
		plain, more := answersOf(t, from, nodes[:3]), answersOf(t, c, nodes[:3])
		for i, then := range more {
			wantCluster(t, "with more behind", then, plain[i])
			if slices.ContainsFunc(clusterTexts(whole(then)), func(s string) bool { return s == "behind" }) {
				t.Errorf("what lies behind is handed out in %+v", then)
			}
		}
		wantPlaces(t, c, "behind")
		if !sameCluster(whole(c), before) || len(plain) != len(more) {
			t.Errorf("behind the lists stands %+v; before %+v", whole(c), before)
		}
	}
}

// An answer stays as it is when what it came from, or it itself, is used again.
func TestAnElderClusterStaysAsItWas(t *testing.T) {
	n := &numbers{}
	var rows, kept []impl.Cluster
	c := newCluster(t, twoNodes(), 300)
	for range 60 {
		then, _ := wildStep(t, n, c, 8)
		rows, kept = append(rows, c), append(kept, copyOfCluster(c))
		c = then
	}
	for i, c := range rows {
		wantCluster(t, "an elder one", c, kept[i])
	}
}

// Promise 10: what is far beyond each limit gets an answer too.
func TestClusterAtHugeArguments(t *testing.T) {
	const huge = 1 << 20
	long := strings.Repeat("x", huge)
	many := halfMoved()
	many.Places = slices.Repeat(many.Places, huge/1000)
	wantNoDo(t, "many places", many, impl.Cmd{Name: "version"})
	nodes := halfMoved()
	nodes.Nodes = slices.Repeat(nodes.Nodes, huge)
	wantNoCluster(t, "many nodes", nodes)
	nodes = halfMoved()
	nodes.Coming = slices.Repeat(nodes.Coming, huge)
	wantNoCluster(t, "many coming", nodes)
	items := halfMoved()
	items.Places[0].Store.Items = slices.Repeat(items.Places[0].Store.Items, huge/100)
	wantNoCluster(t, "many items", items)
	named := halfMoved()
	named.Places[0].Name = long
	wantNoCluster(t, "a long name", named)
	for _, c := range []impl.Cluster{halfMoved(), atRest()} {
		wantNoCrash(t, "a long name", c, long)
		wantNoPlaces(t, "a long key", c, long)
		wantNoBegin(t, "many nodes", c, slices.Repeat(twoNodes(), huge))
		wantNoBegin(t, "a long name", c, oneNode(long))
		wantNoDo(t, "a long key", c, askFor([]string{long}, false))
		wantNoDo(t, "long data", c, setOf(impl.Item{Key: "k1", Data: long}))
		wantNoDo(t, "many keys", c, askFor(slices.Repeat([]string{"k1"}, huge), true))
	}
	wantNoNew(t, "many nodes", slices.Repeat(twoNodes(), huge), 10)
	wantNoCluster(t, "the least numbers", impl.Cluster{Now: math.MinInt, Next: math.MinInt, Limit: math.MinInt, Lost: math.MinInt})
	wantNoCluster(t, "the most numbers", impl.Cluster{Now: math.MaxInt, Next: math.MaxInt, Limit: math.MaxInt, Lost: math.MaxInt})
}
