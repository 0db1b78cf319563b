package tests

import (
	"math"
	"strings"
	"testing"

	"loop.example/g00170/impl"
)

func TestOwnerOfTwoNodes(t *testing.T) {
	for key, want := range map[string]string{
		"k1": "a", "k2": "b", "k3": "a", "a": "b", "foo": "b", "bar": "b", "user:17": "a",
		"a-0": "a", "a-1": "a", "a-7": "a", "b-0": "b", "b-15": "b",
	} {
		wantOwner(t, twoNodes(), key, want)
	}
}

func TestOneNodeOwnsAll(t *testing.T) {
	n := &numbers{}
	for weight := 1; weight <= impl.MaxWeight; weight++ {
		for _, k := range wildKeys(n, 200) {
			wantOwner(t, []impl.Node{{Name: "only", Weight: weight}}, k, "only")
		}
	}
}

// Keys whose hash is just a point's At, one below and one above it.
func TestKeysBesidePoints(t *testing.T) {
	back := newBackTo()
	for _, l := range [][]impl.Node{twoNodes(), eightNodes(1), {{Name: "z", Weight: 5}}, {{Name: "rhxm", Weight: 2}, {Name: "uczl", Weight: 2}}} {
		r := wantRing(t, l)
		for i, p := range r {
			if i > 0 && r[i-1].At == p.At {
				continue
			}
			next := i + 1
			for next < len(r) && r[next].At == p.At {
				next++
			}
			wantOwner(t, l, back.keyAt(t, p.At), p.Name)
			wantOwner(t, l, back.keyAt(t, p.At-1), p.Name)
			wantOwner(t, l, back.keyAt(t, p.At+1), r[next%len(r)].Name)
		}
	}
}

// Behind the last point the first one of all is taken; ahead of it too.
func TestKeysBehindTheLastPoint(t *testing.T) {
	back := newBackTo()
	for _, l := range append(sharedNodes(), twoNodes(), eightNodes(5)) {
		r := wantRing(t, l)
		for _, at := range []uint32{r[len(r)-1].At + 1, r[len(r)-1].At/2 + math.MaxUint32/2, math.MaxUint32 - 1, math.MaxUint32, 0, 1, r[0].At / 2, r[0].At - 1, r[0].At} {
			if at > r[0].At && at <= r[len(r)-1].At {
				continue
			}
			wantOwner(t, l, back.keyAt(t, at), r[0].Name)
		}
		wantOwner(t, l, back.keyAt(t, r[len(r)-1].At), slowOwner(l, back.keyAt(t, r[len(r)-1].At)))
	}
}

// Of points that share one At the least name owns: the other one has nothing.
func TestLeastNameOfSharedPoints(t *testing.T) {
	back := newBackTo()
	n := &numbers{}
	for _, l := range sharedNodes() {
		for _, p := range wantRing(t, l) {
			for _, at := range []uint32{p.At - 1, p.At, p.At + 1} {
				wantOwner(t, l, back.keyAt(t, at), l[0].Name)
			}
		}
		keys := wildKeys(n, mostAsked)
		wantShares(t, l, keys, mostAsked, 0)
		wantMoved(t, l, l[:1], keys, nil)
		wantMoved(t, l, l[1:], keys, keys)
	}
}

func TestKeysThatAreNone(t *testing.T) {
	for _, k := range []string{"", " ", "a b", "a\n", "a\r\n", "\x00", "\x7f", "\xff", "é", key(impl.MaxKey + 1), key(100000)} {
		if name, ok := impl.OwnerOf(twoNodes(), k); name != "" || ok {
			t.Errorf("OwnerOf %q = %q, %v", k, name, ok)
		}
	}
	for b := range 256 {
		k := "k" + string([]byte{byte(b)})
		name, ok := impl.OwnerOf(twoNodes(), k)
		if good := b >= 33 && b <= 126; ok != good || good && name != slowOwner(twoNodes(), k) || !good && name != "" {
			t.Errorf("OwnerOf %q = %q, %v", k, name, ok)
		}
	}
	for _, k := range []string{"!", "~", key(impl.MaxKey), strings.Repeat("~", impl.MaxKey)} {
		wantOwner(t, twoNodes(), k, slowOwner(twoNodes(), k))
	}
}

func TestOwnerAgainstSlowOwner(t *testing.T) {
	n := &numbers{}
	for range 300 {
		l := wildNodes(n)
		for _, k := range wildKeys(n, 10) {
			wantOwner(t, l, k, slowOwner(l, k))
		}
	}
}
