package tests

import (
	"regexp"
	"slices"
	"strconv"
	"strings"
	"testing"

	"loop.example/g00170/impl"
)

// mostAsked is the document's own number for how many keys may be asked at once.
const mostAsked = 60

// turned turns those bits of a about that b has, by division alone.
func turned(a, b uint64) uint64 {
	out, bit := uint64(0), uint64(1)
	for a > 0 || b > 0 {
		if a%2 != b%2 {
			out += bit
		}
		a, b, bit = a/2, b/2, bit*2
	}
	return out
}

// slowHash is HashKey once more, in numbers that do not wrap round.
func slowHash(s string) uint32 {
	const all = 1 << 32
	h := uint64(2166136261)
	for _, b := range []byte(s) {
		h = turned(h, uint64(b)) * 16777619 % all
	}
	for range 3 {
		h = turned(h, h/32768) * 2654435761 % all
	}
	return uint32(h)
}

var nameOfNode = regexp.MustCompile(`^[a-z0-9]{1,8}$`)

func slowGoodNodes(l []impl.Node) bool {
	names := map[string]bool{}
	for i, n := range l {
		if !nameOfNode.MatchString(n.Name) || strings.HasSuffix(n.Name, "\n") || n.Weight < 1 || n.Weight > 5 {
			return false
		}
		for _, ahead := range l[:i] {
			if ahead.Name > n.Name {
				return false
			}
		}
		names[n.Name] = true
	}
	return len(l) > 0 && len(l) <= 8 && len(names) == len(l)
}

// slowPoints are the points of the nodes, in no order.
func slowPoints(l []impl.Node) []impl.Point {
	var out []impl.Point
	for _, n := range l {
		for i := range 8 * n.Weight {
			out = append(out, impl.Point{At: slowHash(n.Name + "-" + strconv.Itoa(i)), Name: n.Name})
		}
	}
	return out
}

// slowOwner goes by how far a point is ahead on the round, of those as far the least name.
func slowOwner(l []impl.Node, key string) string {
	const all = 1 << 32
	from := uint64(slowHash(key))
	name, least := "", uint64(all)
	for _, p := range slowPoints(l) {
		far := (uint64(p.At) + all - from) % all
		if far < least || far == least && p.Name < name {
			name, least = p.Name, far
		}
	}
	return name
}

func owner(t *testing.T, l []impl.Node, key string) string {
	t.Helper()
	name, ok := impl.OwnerOf(l, key)
	if !ok {
		t.Fatalf("OwnerOf(%v, %q) says false", l, key)
	}
	return name
}

func wantOwner(t *testing.T, l []impl.Node, key, want string) {
	t.Helper()
	if name := owner(t, l, key); name != want {
		t.Errorf("OwnerOf(%v, %q of %d) = %q; want %q", l, key, slowHash(key), name, want)
	}
}

// wantNoNodes asks all functions of nodes that must not be taken.
func wantNoNodes(t *testing.T, what string, l []impl.Node) {
	t.Helper()
	if impl.GoodNodes(l) {
		t.Errorf("%s: GoodNodes says true", what)
	}
	if r, ok := impl.RingOf(l); len(r) != 0 || ok {
		t.Errorf("%s: RingOf = %v, %v", what, r, ok)
	}
	if name, ok := impl.OwnerOf(l, "k"); name != "" || ok {
		t.Errorf("%s: OwnerOf = %q, %v", what, name, ok)
	}
	good := []impl.Node{{Name: "a", Weight: 1}}
	for _, keys := range [][]string{nil, {"k"}} {
		wantNoMoved(t, what, l, good, keys)
		wantNoMoved(t, what, good, l, keys)
		wantNoMoved(t, what, l, l, keys)
		wantNoShares(t, what, l, keys)
	}
}

func wantNoMoved(t *testing.T, what string, a, b []impl.Node, keys []string) {
	t.Helper()
	if moved, ok := impl.MovedKeys(a, b, keys); len(moved) != 0 || ok {
		t.Errorf("%s: MovedKeys = %q, %v", what, moved, ok)
	}
}

func wantNoShares(t *testing.T, what string, l []impl.Node, keys []string) {
	t.Helper()
	if shares, ok := impl.SharesOf(l, keys); len(shares) != 0 || ok {
		t.Errorf("%s: SharesOf = %v, %v", what, shares, ok)
	}
}

func wantMoved(t *testing.T, a, b []impl.Node, keys, want []string) {
	t.Helper()
	if moved, ok := impl.MovedKeys(a, b, keys); !slices.Equal(moved, want) || !ok {
		t.Errorf("MovedKeys(%v, %v, %q) = %q, %v; want %q, true", a, b, keys, moved, ok, want)
	}
}

func wantShares(t *testing.T, l []impl.Node, keys []string, want ...int) {
	t.Helper()
	if shares, ok := impl.SharesOf(l, keys); !slices.Equal(shares, want) || !ok {
		t.Errorf("SharesOf(%v, %q) = %v, %v; want %v, true", l, keys, shares, ok, want)
	}
}

// backTo holds, by the state that they lead to, all texts of three of its signs.
type backTo map[uint32]string

const keySigns = "abcdefghijklmnopqrstuvwxyzABCDEFGHIJKLMNOPQRSTUVWXYZ0123456789!~"

func newBackTo() backTo {
	m := backTo{}
	eachThree(keySigns, func(s string) bool {
		h := uint32(2166136261)
		for i := range 3 {
			h = (h ^ uint32(s[i])) * 16777619
		}
		m[h] = s
		return false
	})
	return m
}

func eachThree(signs string, stop func(string) bool) {
	for i := range signs {
		for j := range signs {
			for k := range signs {
				if stop(string([]byte{signs[i], signs[j], signs[k]})) {
					return
				}
			}
		}
	}
}

// oddInverse is what turns a product by an odd number back.
func oddInverse(odd uint32) uint32 {
	x := odd
	for range 5 {
		x *= 2 - odd*x
	}
	return x
}

// keyAt is a key of six bytes whose HashKey is h: the rounds are gone back,
// then from the end three bytes at a time, till a text of the table is met.
func (m backTo) keyAt(t *testing.T, h uint32) string {
	t.Helper()
	state := h
	for range 3 {
		state *= oddInverse(2654435761)
		state ^= state>>15 ^ state>>30
	}
	back := oddInverse(16777619)
	found := ""
	eachThree(keySigns, func(s string) bool {
		at := state
		for i := 2; i >= 0; i-- {
			at = at*back ^ uint32(s[i])
		}
		if ahead, ok := m[at]; ok {
			found = ahead + s
		}
		return found != ""
	})
	if slowHash(found) != h || !impl.GoodKey(found) {
		t.Fatalf("no key of %d was found: %q", h, found)
	}
	return found
}

// wildNodes are good, names of few and of many signs among them.
func wildNodes(n *numbers) []impl.Node {
	const signs = "abcdefghijklmnopqrstuvwxyz0123456789"
	weights := map[string]int{}
	for many := 1 + n.below(impl.MaxNodes); len(weights) < many; {
		name := make([]byte, 1+n.below(8))
		for i := range name {
			name[i] = signs[n.below(len(signs))]
		}
		weights[string(name)] = 1 + n.below(impl.MaxWeight)
	}
	return nodesOf(weights)
}

func nodesOf(weights map[string]int) []impl.Node {
	var out []impl.Node
	for name, weight := range weights {
		out = append(out, impl.Node{Name: name, Weight: weight})
	}
	slices.SortFunc(out, func(a, b impl.Node) int { return strings.Compare(a.Name, b.Name) })
	return out
}

func without(l []impl.Node, at int) []impl.Node {
	return slices.Delete(slices.Clone(l), at, at+1)
}

// wildKeys are so many keys, some of them standing more than once.
func wildKeys(n *numbers, many int) []string {
	var out []string
	for range many {
		if len(out) > 0 && n.below(6) == 0 {
			out = append(out, pick(n, out))
			continue
		}
		k := make([]byte, 1+n.below(impl.MaxKey))
		for i := range k {
			k[i] = byte(33 + n.below(94))
		}
		out = append(out, string(k))
	}
	return out
}

// keysOf are k1, k2 and so on.
func keysOf(many int) []string {
	var out []string
	for i := range many {
		out = append(out, "k"+strconv.Itoa(i+1))
	}
	return out
}

func namesOf(l []impl.Node) []string {
	var out []string
	for _, n := range l {
		out = append(out, n.Name)
	}
	return out
}
