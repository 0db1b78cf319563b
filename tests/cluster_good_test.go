package tests

import (
	"math"
	"slices"
	"testing"

	"loop.example/g00170/impl"
)

// laterNodes is where twoNodes move to: a goes, b stays, c comes.
func laterNodes() []impl.Node {
	return []impl.Node{{Name: "b", Weight: 2}, {Name: "c", Weight: 3}}
}

// going is the first key that belongs to one place in twoNodes and to another in laterNodes.
func going(a, b string) string {
	return keysGoing(twoNodes(), laterNodes(), a, b, 1)[0]
}

// halfMoved has keys that are left, that have come and that stay.
func halfMoved() impl.Cluster {
	ab, ac, bc := keysGoing(twoNodes(), laterNodes(), "a", "b", 2), keysGoing(twoNodes(), laterNodes(), "a", "c", 2), keysGoing(twoNodes(), laterNodes(), "b", "c", 2)
	c := placed(twoNodes(), laterNodes(), 1000, 20, map[string][]impl.Item{
		"a": {val(ab[0], 3), val(ac[0], 1)},
		"b": {val(ab[1], 7), val(bc[0], 2), val(going("b", "b"), 5)},
		"c": {val(ac[1], 4), val(bc[1], 6)},
	})
	c.Now, c.Lost = 10, 2
	return c
}

// atRest has twoNodes and nothing coming.
func atRest() impl.Cluster {
	c := placed(twoNodes(), nil, 1000, 20, map[string][]impl.Item{
		"a": {val("k1", 3), val("k3", 1)},
		"b": {val("k2", 2), val("foo", 5)},
	})
	c.Now, c.Lost = 10, 2
	return c
}

func TestGoodClusters(t *testing.T) {
	wantGoodCluster(t, "half moved", halfMoved())
	wantGoodCluster(t, "at rest", atRest())
	for what, change := range map[string]func(*impl.Cluster){
		"now 0":            func(c *impl.Cluster) { c.Now = 0 },
		"the last now":     func(c *impl.Cluster) { c.Now = impl.MaxNow },
		"the last next":    func(c *impl.Cluster) { c.Next = mostTokens },
		"lost 0":           func(c *impl.Cluster) { c.Lost = 0 },
		"the most lost":    func(c *impl.Cluster) { c.Lost = mostLost },
		"old items":        func(c *impl.Cluster) { c.Places[1].Store.Items[0].Until = 1 },
		"a store's next 8": func(c *impl.Cluster) { c.Places[1].Store.Next = 8 },
		"another token":    func(c *impl.Cluster) { c.Places[0].Store.Items[0].Token = 9 },
		"no items at a":    func(c *impl.Cluster) { c.Places[0].Store = impl.Store{Limit: 1000, Next: 1} },
		"empty, not nil":   func(c *impl.Cluster) { c.Places[0].Store.Items = []impl.Item{} },
	} {
		for _, c := range []impl.Cluster{halfMoved(), atRest()} {
			change(&c)
			wantGoodCluster(t, what, c)
		}
	}
	rest := atRest()
	rest.Coming = []impl.Node{}
	wantGoodCluster(t, "an empty list coming", rest)
	rest.Coming = twoNodes()
	wantGoodCluster(t, "the same nodes coming", rest)
	wantGoodCluster(t, "limit 0", placed(twoNodes(), nil, 0, 1, nil))
	wantGoodCluster(t, "the last limit", placed(twoNodes(), laterNodes(), impl.MaxLimit, 1, nil))
	wantGoodCluster(t, "one node", placed(oneNode("a"), nil, 10, 1, nil))
	later := eightNodes(5)
	for i := range later {
		later[i].Name = "x" + later[i].Name
	}
	wantGoodCluster(t, "sixteen places", placed(eightNodes(5), later, 10, 1, nil))
	full := fullStore()
	wantGoodCluster(t, "a full store", placed(oneNode("a"), nil, full.Limit, full.Next, map[string][]impl.Item{"a": full.Items}))
}

func TestClustersThatAreNotGood(t *testing.T) {
	for what, change := range map[string]func(*impl.Cluster){
		"now -1":                 func(c *impl.Cluster) { c.Now = -1 },
		"a now too many":         func(c *impl.Cluster) { c.Now = impl.MaxNow + 1 },
		"the least now":          func(c *impl.Cluster) { c.Now = math.MinInt },
		"next below its stores'": func(c *impl.Cluster) { c.Next = 19 },
		"next 0":                 func(c *impl.Cluster) { c.Next = 0 },
		"next -1":                func(c *impl.Cluster) { c.Next = -1 },
		"a next too many":        func(c *impl.Cluster) { c.Next = mostTokens + 1 },
		"another limit":          func(c *impl.Cluster) { c.Limit = 999 },
		"limit -1":               func(c *impl.Cluster) { c.Limit = -1 },
		"lost -1":                func(c *impl.Cluster) { c.Lost = -1 },
		"one too many lost":      func(c *impl.Cluster) { c.Lost = mostLost + 1 },
		"the most int lost":      func(c *impl.Cluster) { c.Lost = math.MaxInt },
		"no nodes":               func(c *impl.Cluster) { c.Nodes = nil },
		"nodes that fall":        func(c *impl.Cluster) { slices.Reverse(c.Nodes) },
		"a node's weight 0":      func(c *impl.Cluster) { c.Nodes[0].Weight = 0 },
		"coming twice":           func(c *impl.Cluster) { c.Coming = slices.Repeat(oneNode("b"), 2) },
		"coming of weight 6":     func(c *impl.Cluster) { c.Coming = []impl.Node{{Name: "b", Weight: 6}} },
		"no places":              func(c *impl.Cluster) { c.Places = nil },
		"the first place gone":   func(c *impl.Cluster) { c.Places = c.Places[1:] },
		"the last place gone":    func(c *impl.Cluster) { c.Places = c.Places[:len(c.Places)-1] },
		"a place too many":       func(c *impl.Cluster) { c.Places = append(c.Places, emptyPlace("d")) },
		"one too many in front":  func(c *impl.Cluster) { c.Places = slices.Insert(c.Places, 0, emptyPlace("0")) },
		"an empty name":          func(c *impl.Cluster) { c.Places = slices.Insert(c.Places, 0, emptyPlace("")) },
		"a place twice":          func(c *impl.Cluster) { c.Places = slices.Insert(c.Places, 1, emptyPlace("a")) },
		"places that fall":       func(c *impl.Cluster) { c.Places[0], c.Places[1] = c.Places[1], c.Places[0] },
		"another name":           func(c *impl.Cluster) { c.Places[len(c.Places)-1] = emptyPlace("d") },
		"a store that is none":   func(c *impl.Cluster) { c.Places[0].Store = impl.Store{} },
		"a store's limit less":   func(c *impl.Cluster) { c.Places[0].Store.Limit-- },
		"a store's limit more":   func(c *impl.Cluster) { c.Places[1].Store.Limit++ },
		"a store's next 0":       func(c *impl.Cluster) { c.Places[0].Store.Next = 0 },
		"a store's next more":    func(c *impl.Cluster) { c.Places[len(c.Places)-1].Store.Next = 21 },
		"a token at next":        func(c *impl.Cluster) { c.Places[0].Store.Items[0].Token = 20 },
		"a token at two places":  func(c *impl.Cluster) { c.Places[0].Store.Items[0].Token = 2 },
		"a token twice at one":   func(c *impl.Cluster) { c.Places[0].Store.Items[0].Token = 1 },
		"a key that is none":     func(c *impl.Cluster) { c.Places[0].Store.Items[0].Key = "" },
		"a key twice at one":     func(c *impl.Cluster) { c.Places[0].Store.Items[0].Key = c.Places[0].Store.Items[1].Key },
		"data too long":          func(c *impl.Cluster) { c.Places[1].Store.Items[1].Data = key(impl.MaxValue + 1) },
		"flags below 0":          func(c *impl.Cluster) { c.Places[1].Store.Items[1].Flags = -1 },
		"until below 0":          func(c *impl.Cluster) { c.Places[1].Store.Items[1].Until = -1 },
	} {
		for _, c := range []impl.Cluster{halfMoved(), atRest()} {
			change(&c)
			wantNoCluster(t, what, c)
			if slowGoodCluster(c) {
				t.Errorf("%s: the slow telling says true", what)
			}
		}
	}
	wantNoCluster(t, "the zero cluster", impl.Cluster{})
	wantNoCluster(t, "a limit too many", placed(twoNodes(), nil, impl.MaxLimit+1, 1, nil))
	wantNoCluster(t, "more than the limit", placed(oneNode("a"), nil, 49, 9, map[string][]impl.Item{"a": {sized("x", 50, 1)}}))
	full := fullStore()
	more := append(full.Items, val("more", full.Next))
	wantNoCluster(t, "too many items", placed(oneNode("a"), nil, impl.MaxLimit, full.Next+1, map[string][]impl.Item{"a": more}))
}

func emptyPlace(name string) impl.Place {
	return impl.Place{Name: name, Store: impl.Store{Limit: 1000, Next: 1}}
}

// A place of Nodes or of Coming alone must be there, whichever it is.
func TestPlacesAreThoseOfBothNodes(t *testing.T) {
	c := placed(twoNodes(), laterNodes(), 1000, 1, nil)
	for i := range c.Places {
		less := c
		less.Places = slices.Delete(slices.Clone(c.Places), i, i+1)
		wantNoCluster(t, "without "+c.Places[i].Name, less)
	}
	rest := c
	rest.Coming = nil
	wantNoCluster(t, "c is no node at rest", rest)
	rest.Places = c.Places[:2]
	wantGoodCluster(t, "a and b at rest", rest)
}

// A key may stand where it belongs in Nodes or in Coming, and nowhere else.
func TestWhereAKeyMayStand(t *testing.T) {
	for _, k := range keysOf(40) {
		from, to := ownerMemo(twoNodes(), k), ownerMemo(laterNodes(), k)
		for _, name := range []string{"a", "b", "c"} {
			items := map[string][]impl.Item{name: {val(k, 3)}}
			moving := placed(twoNodes(), laterNodes(), 1000, 20, items)
			if name == from || name == to {
				wantGoodCluster(t, k+" at "+name, moving)
			} else {
				wantNoCluster(t, k+" at "+name, moving)
			}
			if name == "c" {
				continue
			}
			rest := placed(twoNodes(), nil, 1000, 20, items)
			if name == from {
				wantGoodCluster(t, k+" at "+name+" at rest", rest)
			} else {
				wantNoCluster(t, k+" at "+name+" at rest", rest)
			}
		}
		if from != to {
			both := map[string][]impl.Item{from: {val(k, 3)}, to: {val(k, 4)}}
			wantNoCluster(t, k+" at both", placed(twoNodes(), laterNodes(), 1000, 20, both))
		}
	}
}

func TestNewClusters(t *testing.T) {
	for _, limit := range []int{0, 1, 1000, impl.MaxLimit} {
		empty := impl.Store{Limit: limit, Next: 1}
		want := impl.Cluster{Next: 1, Limit: limit, Nodes: twoNodes(), Places: []impl.Place{{Name: "a", Store: empty}, {Name: "b", Store: empty}}}
		wantCluster(t, "a new one", newCluster(t, twoNodes(), limit), want)
		wantCluster(t, "eight", newCluster(t, eightNodes(5), limit), placed(eightNodes(5), nil, limit, 1, nil))
	}
	for what, l := range notNodes() {
		wantNoNew(t, what, l, 1000)
	}
	for _, limit := range []int{-1, impl.MaxLimit + 1, math.MinInt, math.MaxInt} {
		wantNoNew(t, "the limit", twoNodes(), limit)
	}
}

func wantNoNew(t *testing.T, what string, l []impl.Node, limit int) {
	t.Helper()
	if c, ok := impl.NewCluster(l, limit); !isZeroCluster(c) || ok {
		t.Errorf("%s: NewCluster(%v, %d) = %+v, %v", what, l, limit, c, ok)
	}
}
