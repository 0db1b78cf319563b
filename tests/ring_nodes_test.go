package tests

import (
	"math"
	"slices"
	"strings"
	"testing"

	"loop.example/g00170/impl"
)

// twoNodes are the document's smallest ring of unlike weights.
func twoNodes() []impl.Node {
	return []impl.Node{{Name: "a", Weight: 1}, {Name: "b", Weight: 2}}
}

func eightNodes(weight int) []impl.Node {
	var out []impl.Node
	for i := range impl.MaxNodes {
		out = append(out, impl.Node{Name: "node" + string(rune('0'+i)), Weight: weight})
	}
	return out
}

func TestGoodNodes(t *testing.T) {
	for what, l := range map[string][]impl.Node{
		"one":               {{Name: "a", Weight: 1}},
		"eight":             eightNodes(1),
		"eight, weight 5":   eightNodes(impl.MaxWeight),
		"two":               twoNodes(),
		"weights fall":      {{Name: "a", Weight: 5}, {Name: "b", Weight: 1}},
		"name of eight":     {{Name: "abcdefgh", Weight: 1}},
		"name of a digit":   {{Name: "0", Weight: 1}},
		"digits and z":      {{Name: "09", Weight: 2}, {Name: "9z", Weight: 3}, {Name: "az", Weight: 4}, {Name: "zzzzzzzz", Weight: 5}},
		"digits ahead":      {{Name: "9", Weight: 1}, {Name: "a", Weight: 1}},
		"a name's front":    {{Name: "a", Weight: 1}, {Name: "aa", Weight: 1}, {Name: "aab", Weight: 1}},
		"not by the number": {{Name: "10", Weight: 1}, {Name: "9", Weight: 1}},
	} {
		if !impl.GoodNodes(l) {
			t.Errorf("%s: GoodNodes says false", what)
		}
		if r, ok := impl.RingOf(l); !ok || len(r) == 0 {
			t.Errorf("%s: RingOf = %v, %v", what, r, ok)
		}
	}
}

func TestNodesThatAreNotGood(t *testing.T) {
	one := func(name string, weight int) []impl.Node { return []impl.Node{{Name: name, Weight: weight}} }
	for what, l := range map[string][]impl.Node{
		"none":           nil,
		"an empty list":  {},
		"nine":           append(eightNodes(1), impl.Node{Name: "z", Weight: 1}),
		"weight 0":       one("a", 0),
		"weight 6":       one("a", impl.MaxWeight+1),
		"weight below 0": one("a", -1),
		"least weight":   one("a", math.MinInt),
		"most weight":    one("a", math.MaxInt),
		"weight 2^32+1":  one("a", 1<<32+1),
		"empty name":     one("", 1),
		"name of nine":   one("abcdefghi", 1),
		"name of many":   one(strings.Repeat("a", 100000), 1),
		"the zero node":  one("", 0),
		"two of a name":  {{Name: "a", Weight: 1}, {Name: "a", Weight: 2}},
		"two alike":      {{Name: "a", Weight: 1}, {Name: "a", Weight: 1}},
		"falling":        {{Name: "b", Weight: 1}, {Name: "a", Weight: 1}},
		"falling last":   {{Name: "a", Weight: 1}, {Name: "c", Weight: 1}, {Name: "b", Weight: 1}},
		"a front behind": {{Name: "aa", Weight: 1}, {Name: "a", Weight: 1}},
		"by the number":  {{Name: "9", Weight: 1}, {Name: "10", Weight: 1}},
	} {
		wantNoNodes(t, what, l)
	}
}

// Each condition is asked of each node, not of the first one alone.
func TestOneOfEightNodesIsNotGood(t *testing.T) {
	for at := range impl.MaxNodes {
		for what, change := range map[string]func(*impl.Node){
			"weight 0":     func(n *impl.Node) { n.Weight = 0 },
			"weight 6":     func(n *impl.Node) { n.Weight = 6 },
			"a sign":       func(n *impl.Node) { n.Name += "-" },
			"a big letter": func(n *impl.Node) { n.Name += "A" },
			"nine signs":   func(n *impl.Node) { n.Name += "0000" },
			"empty":        func(n *impl.Node) { n.Name = "" },
		} {
			l := eightNodes(3)
			change(&l[at])
			wantNoNodes(t, what, l)
		}
		if at > 0 {
			l := eightNodes(3)
			l[at].Name = l[at-1].Name
			wantNoNodes(t, "two of a name", l)
			l = eightNodes(3)
			l[at], l[at-1] = l[at-1], l[at]
			wantNoNodes(t, "falling", l)
		}
	}
}

func TestSignsOfNodeNames(t *testing.T) {
	for b := range 256 {
		good := b >= 'a' && b <= 'z' || b >= '0' && b <= '9'
		sign := string([]byte{byte(b)})
		for _, name := range []string{sign, "n" + sign, sign + "n", "nod" + sign + "node"} {
			l := []impl.Node{{Name: name, Weight: 1}}
			if impl.GoodNodes(l) != good {
				t.Errorf("GoodNodes of the name %q says %v", name, !good)
			}
			if !good {
				wantNoNodes(t, name, l)
			}
		}
	}
	for _, name := range []string{"é", "ａ", "名", "a b", "a\n", "\na", "a\x00"} {
		wantNoNodes(t, name, []impl.Node{{Name: name, Weight: 1}})
	}
}

// The points were reckoned apart from the program, from the document's words.
func TestRingOfTwoNodes(t *testing.T) {
	want := []impl.Point{
		{At: 96923925, Name: "b"}, {At: 632420280, Name: "b"}, {At: 833537012, Name: "b"}, {At: 846986327, Name: "b"},
		{At: 1428041719, Name: "a"}, {At: 1610006796, Name: "a"}, {At: 1683545202, Name: "a"}, {At: 1695575306, Name: "b"},
		{At: 1711692330, Name: "b"}, {At: 2064979797, Name: "b"}, {At: 2232231298, Name: "a"}, {At: 2247790416, Name: "b"},
		{At: 2415682518, Name: "b"}, {At: 2430367091, Name: "b"}, {At: 2579762140, Name: "b"}, {At: 2913848703, Name: "b"},
		{At: 3008614139, Name: "b"}, {At: 3246902313, Name: "a"}, {At: 3260857995, Name: "b"}, {At: 3423217551, Name: "a"},
		{At: 3481229643, Name: "b"}, {At: 3546196263, Name: "b"}, {At: 3711799648, Name: "a"}, {At: 3788645972, Name: "a"},
	}
	if r, ok := impl.RingOf(twoNodes()); !slices.Equal(r, want) || !ok {
		t.Errorf("RingOf = %v, %v; want %v, true", r, ok, want)
	}
}

// wantRing holds a ring against points put in order here.
func wantRing(t *testing.T, l []impl.Node) []impl.Point {
	t.Helper()
	want := slowPoints(l)
	slices.SortFunc(want, func(a, b impl.Point) int {
		if a.At < b.At || a.At == b.At && a.Name < b.Name {
			return -1
		}
		if a == b {
			return 0
		}
		return 1
	})
	r, ok := impl.RingOf(l)
	if !slices.Equal(r, want) || !ok {
		t.Fatalf("RingOf(%v) = %v, %v; want %v, true", l, r, ok, want)
	}
	return r
}

func TestHowManyPoints(t *testing.T) {
	for weight := 1; weight <= impl.MaxWeight; weight++ {
		one := []impl.Node{{Name: "a", Weight: weight}}
		if r := wantRing(t, one); len(r) != impl.PointsEach*weight {
			t.Errorf("weight %d: %d points", weight, len(r))
		}
		if r := wantRing(t, eightNodes(weight)); len(r) != impl.PointsEach*weight*impl.MaxNodes {
			t.Errorf("eight of weight %d: %d points", weight, len(r))
		}
	}
}

// With more weight all points stay, and more come.
func TestMoreWeightKeepsPoints(t *testing.T) {
	for weight := 1; weight < impl.MaxWeight; weight++ {
		less := wantRing(t, []impl.Node{{Name: "a", Weight: weight}})
		more := wantRing(t, []impl.Node{{Name: "a", Weight: weight + 1}})
		for _, p := range less {
			if !slices.Contains(more, p) {
				t.Errorf("weight %d has the point %v, weight %d does not", weight, p, weight+1)
			}
		}
	}
}

func TestRingOfWildNodes(t *testing.T) {
	n := &numbers{}
	for range 400 {
		wantRing(t, wildNodes(n))
	}
}

// sharedNodes are nodes whose points share each At: rhxm-1 and uczl-0 have one
// hash, and so on; all hashes of basqtggv are those of ojcsaaxx.
func sharedNodes() [][]impl.Node {
	return [][]impl.Node{
		{{Name: "rhxm", Weight: 1}, {Name: "uczl", Weight: 1}},
		{{Name: "basqtggv", Weight: 1}, {Name: "ojcsaaxx", Weight: 1}},
		{{Name: "basqtggv", Weight: 5}, {Name: "ojcsaaxx", Weight: 5}},
	}
}

func TestPointsThatShareOneAt(t *testing.T) {
	for _, l := range sharedNodes() {
		r := wantRing(t, l)
		for i := 0; i < len(r); i += 2 {
			if r[i].At != r[i+1].At || r[i].Name != l[0].Name || r[i+1].Name != l[1].Name {
				t.Errorf("%v: the points %d are %v and %v", l, i, r[i], r[i+1])
			}
		}
	}
	wantRing(t, []impl.Node{{Name: "basqtggv", Weight: 2}, {Name: "m", Weight: 5}, {Name: "ojcsaaxx", Weight: 4}, {Name: "rhxm", Weight: 3}, {Name: "uczl", Weight: 1}})
}

// Two points of one node may be alike (ve8dzb-0 and ve8dzb-15): both stand there.
func TestPointsThatAreAlike(t *testing.T) {
	l := []impl.Node{{Name: "ve8dzb", Weight: 3}}
	r := wantRing(t, l)
	if len(r) != 24 || len(slices.Compact(slices.Clone(r))) != 16 {
		t.Errorf("the ring is %v", r)
	}
	wantRing(t, []impl.Node{{Name: "a", Weight: 5}, {Name: "ve8dzb", Weight: 5}, {Name: "z", Weight: 5}})
}
