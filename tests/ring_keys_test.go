package tests

import (
	"slices"
	"testing"

	"loop.example/g00170/impl"
)

func TestMovedKeysOfTwoNodes(t *testing.T) {
	l := twoNodes()
	keys := []string{"k1", "k2", "k3", "a", "foo", "bar", "user:17", "k1", "k2"}
	wantMoved(t, l, l[:1], keys, []string{"k2", "a", "foo", "bar", "k2"})
	wantMoved(t, l[:1], l, keys, []string{"k2", "a", "foo", "bar", "k2"})
	wantMoved(t, l, l[1:], keys, []string{"k1", "k3", "user:17", "k1"})
	wantMoved(t, l[1:], l, keys, []string{"k1", "k3", "user:17", "k1"})
	wantMoved(t, l[:1], l[1:], keys, keys)
	wantMoved(t, l, []impl.Node{{Name: "c", Weight: 1}, {Name: "d", Weight: 2}}, keys, keys)
	wantShares(t, l, keys, 4, 5)
	wantShares(t, l[:1], keys, 9)
}

func TestSameNodesTwice(t *testing.T) {
	n := &numbers{}
	for range 50 {
		l, keys := wildNodes(n), wildKeys(n, mostAsked)
		wantMoved(t, l, l, keys, nil)
		wantMoved(t, l, slices.Clone(l), keys, nil)
	}
}

// It is the owner's name that counts, not where it stands among the nodes.
func TestMovedByNameNotByPlace(t *testing.T) {
	b := []impl.Node{{Name: "b", Weight: 2}}
	keys := keysOf(mostAsked)
	var want []string
	for _, k := range keys {
		if slowOwner(twoNodes(), k) == "a" {
			want = append(want, k)
		}
	}
	wantMoved(t, twoNodes(), b, keys, want)
}

func TestNoKeys(t *testing.T) {
	for _, keys := range [][]string{nil, {}} {
		wantMoved(t, twoNodes(), eightNodes(2), keys, nil)
		wantShares(t, twoNodes(), keys, 0, 0)
		wantShares(t, eightNodes(5), keys, 0, 0, 0, 0, 0, 0, 0, 0)
	}
}

func TestSixtyKeysAndOneMore(t *testing.T) {
	for _, many := range []int{1, mostAsked - 1, mostAsked} {
		keys := keysOf(many)
		wantMoved(t, twoNodes(), eightNodes(1), keys, keys)
		wantShares(t, []impl.Node{{Name: "a", Weight: 1}}, keys, many)
		wantShares(t, []impl.Node{{Name: "a", Weight: 1}}, manyKeys(many, 1), many)
	}
	for _, keys := range [][]string{keysOf(mostAsked + 1), manyKeys(mostAsked+1, 1), keysOf(1000)} {
		wantNoMoved(t, "61 keys", twoNodes(), eightNodes(1), keys)
		wantNoMoved(t, "61 keys, the same nodes", twoNodes(), twoNodes(), keys)
		wantNoShares(t, "61 keys", twoNodes(), keys)
	}
}

func TestAKeyThatIsNoneAmongThem(t *testing.T) {
	for _, bad := range []string{"", " ", "a b", "\n", "k\x7f", "\xff", key(impl.MaxKey + 1)} {
		for _, many := range []int{1, 2, mostAsked} {
			for _, at := range []int{0, many / 2, many - 1} {
				keys := keysOf(many)
				keys[at] = bad
				wantNoMoved(t, "a key that is none", twoNodes(), eightNodes(1), keys)
				wantNoMoved(t, "a key that is none, the same nodes", twoNodes(), twoNodes(), keys)
				wantNoShares(t, "a key that is none", twoNodes(), keys)
			}
		}
	}
}

func TestSharesOfOneKeyManyTimes(t *testing.T) {
	keys := slices.Repeat([]string{"k2"}, mostAsked)
	wantShares(t, twoNodes(), keys, 0, mostAsked)
	wantMoved(t, twoNodes(), twoNodes()[:1], keys, keys)
	wantMoved(t, twoNodes(), twoNodes()[1:], keys, nil)
}
