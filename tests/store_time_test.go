package tests

import (
	"reflect"
	"testing"

	"loop.example/g00170/impl"
)

func TestDropOld(t *testing.T) {
	s := threeItems()
	for _, c := range []struct {
		now  int
		keys string
	}{
		{0, "abc"}, {1, "abc"}, {49, "abc"}, {50, "ab"}, {51, "ab"}, {99, "ab"}, {100, "b"}, {101, "b"}, {impl.MaxNow, "b"},
	} {
		then, gone, ok := impl.DropOld(s, c.now)
		want := impl.Store{Limit: s.Limit, Next: s.Next}
		for _, it := range s.Items {
			if it.Key >= c.keys[:1] && it.Key <= c.keys[len(c.keys)-1:] {
				want.Items = append(want.Items, it)
			}
		}
		wantStore(t, "DropOld", then, want)
		if gone != 3-len(c.keys) || !ok {
			t.Errorf("DropOld at %d: %d went, %v; want %d, true", c.now, gone, ok, 3-len(c.keys))
		}
	}
}

func TestDropAll(t *testing.T) {
	s := fullStore()
	for i := range s.Items {
		s.Items[i].Until = 1 + i
	}
	for now := 0; now <= impl.MaxItems+1; now++ {
		then, gone, ok := impl.DropOld(s, now)
		left := min(now, impl.MaxItems)
		wantStore(t, "DropOld", then, impl.Store{Limit: s.Limit, Next: s.Next, Items: s.Items[left:]})
		if gone != left || !ok {
			t.Error(now, gone, ok)
		}
	}
}

func TestUntilAtTheEdges(t *testing.T) {
	for _, c := range []struct {
		until, now int
		old        bool
	}{
		{0, 0, false}, {0, impl.MaxNow, false},
		{1, 0, false}, {1, 1, true}, {1, 2, true}, {1, impl.MaxNow, true},
		{impl.MaxNow - 1, impl.MaxNow, true}, {impl.MaxNow, impl.MaxNow, true}, {impl.MaxNow + 1, impl.MaxNow, false},
		{impl.MaxNow, impl.MaxNow - 1, false}, {2 * impl.MaxNumber, impl.MaxNow, false},
	} {
		it := impl.Item{Key: "k", Flags: 5, Data: "v", Until: c.until, Token: 3}
		s := storeOf(it)
		found, there := impl.FindItem(s, c.now, "k")
		then, gone, ok := impl.DropOld(s, c.now)
		_, answer, _ := done(t, s, c.now, impl.Cmd{Name: "get", Keys: []string{"k"}})
		if c.old {
			if found != (impl.Item{}) || there || gone != 1 || len(then.Items) != 0 || !ok || answer != "END\r\n" {
				t.Errorf("until %d at %d is not old: %+v %v %d %+v %q", c.until, c.now, found, there, gone, then, answer)
			}
		} else if found != it || !there || gone != 0 || len(then.Items) != 1 || !ok || answer != "VALUE k 5 1\r\nv\r\nEND\r\n" {
			t.Errorf("until %d at %d is old: %+v %v %d %+v %q", c.until, c.now, found, there, gone, then, answer)
		}
	}
}

func TestFindItem(t *testing.T) {
	s := threeItems()
	for _, it := range s.Items {
		if got, ok := impl.FindItem(s, 49, it.Key); got != it || !ok {
			t.Errorf("FindItem of %s = %+v, %v", it.Key, got, ok)
		}
	}
	for _, k := range []string{"", "d", "A", "aa", " a", "a ", key(impl.MaxKey), key(impl.MaxKey + 1), "\x00"} {
		if got, ok := impl.FindItem(s, 49, k); got != (impl.Item{}) || ok {
			t.Errorf("FindItem of %q = %+v, %v", k, got, ok)
		}
	}
	if got, ok := impl.FindItem(s, 50, "c"); got != (impl.Item{}) || ok {
		t.Error("the old c is found", got, ok)
	}
	if got, ok := impl.FindItem(s, 50, "a"); got != s.Items[0] || !ok {
		t.Error("a is not found beside an old one", got, ok)
	}
}

func TestNowThatIsNone(t *testing.T) {
	s := threeItems()
	for _, now := range []int{-1, impl.MaxNow + 1, -1 << 63, 1<<63 - 1} {
		if then, gone, ok := impl.DropOld(s, now); !reflect.DeepEqual(then, impl.Store{}) || gone != 0 || ok {
			t.Error("DropOld at", now, then, gone, ok)
		}
		if it, ok := impl.FindItem(s, now, "b"); it != (impl.Item{}) || ok {
			t.Error("FindItem at", now, it, ok)
		}
		for _, c := range []impl.Cmd{{Name: "version"}, {Name: "quit"}, {Name: "get", Keys: []string{"b"}}} {
			wantNotDone(t, "a now that is none", s, now, c)
		}
	}
	for _, now := range []int{0, impl.MaxNow} {
		if _, _, ok := impl.DropOld(s, now); !ok {
			t.Error("DropOld at", now)
		}
		if _, ok := impl.FindItem(s, now, "b"); !ok {
			t.Error("FindItem at", now)
		}
		done(t, s, now, impl.Cmd{Name: "version"})
	}
}

// What Expire makes of now, for each command that has one, and till when it is told.
func TestExpire(t *testing.T) {
	for _, c := range []struct{ now, expire, until int }{
		{0, 0, 0}, {7, 0, 0}, {impl.MaxNow, 0, 0},
		{0, 1, 1}, {7, 1, 8}, {7, 30, 37},
		{0, impl.MaxNumber, impl.MaxNumber}, {impl.MaxNow, 1, impl.MaxNow + 1}, {impl.MaxNow, impl.MaxNumber, 2 * impl.MaxNumber},
	} {
		has := storeOf(impl.Item{Key: "k", Flags: 1, Data: "v", Token: 3})
		has.Next = 5
		has.Items[0].Until = c.now + 1
		none := impl.Store{Limit: impl.MaxLimit, Next: 5}
		for name, s := range map[string]impl.Store{"set": none, "add": none, "replace": has, "cas": has, "touch": has} {
			cmd := impl.Cmd{Name: name, Keys: []string{"k"}, Expire: c.expire}
			if name == "cas" {
				cmd.Number = 3
			}
			then, _, _ := done(t, s, c.now, cmd)
			if len(then.Items) != 1 || then.Items[0].Until != c.until {
				t.Errorf("%s at %d with Expire %d: %+v; want Until %d", name, c.now, c.expire, then, c.until)
			}
			wantGood(t, name, then)
		}
		for _, name := range []string{"append", "prepend"} {
			then, _, _ := done(t, has, c.now, impl.Cmd{Name: name, Keys: []string{"k"}, Expire: c.expire, Data: "x"})
			if then.Items[0].Until != c.now+1 {
				t.Errorf("%s at %d with Expire %d changed Until: %+v", name, c.now, c.expire, then)
			}
		}
	}
}

// What is old goes ahead of everything: it is not there, takes no room, and is not counted as forgotten.
func TestOldGoesFirst(t *testing.T) {
	old := impl.Item{Key: "k", Data: "5", Until: 10, Token: 1}
	stays := impl.Item{Key: "z", Token: 2}
	s := impl.Store{Limit: 24, Next: 3, Items: []impl.Item{old, stays}}
	left := impl.Store{Limit: 24, Next: 3, Items: []impl.Item{stays}}
	k := []string{"k"}
	for _, c := range []struct {
		cmd    impl.Cmd
		answer string
	}{
		{impl.Cmd{Name: "get", Keys: k}, "END\r\n"},
		{impl.Cmd{Name: "gets", Keys: k}, "END\r\n"},
		{impl.Cmd{Name: "replace", Keys: k}, "NOT_STORED\r\n"},
		{impl.Cmd{Name: "append", Keys: k}, "NOT_STORED\r\n"},
		{impl.Cmd{Name: "prepend", Keys: k}, "NOT_STORED\r\n"},
		{impl.Cmd{Name: "cas", Keys: k, Number: 1}, "NOT_FOUND\r\n"},
		{impl.Cmd{Name: "incr", Keys: k}, "NOT_FOUND\r\n"},
		{impl.Cmd{Name: "decr", Keys: k}, "NOT_FOUND\r\n"},
		{impl.Cmd{Name: "touch", Keys: k}, "NOT_FOUND\r\n"},
		{impl.Cmd{Name: "delete", Keys: k}, "NOT_FOUND\r\n"},
		{impl.Cmd{Name: "version"}, "VERSION 1\r\n"},
		{impl.Cmd{Name: "quit"}, ""},
		{impl.Cmd{Name: "set", Keys: k, Data: "too much here."}, "SERVER_ERROR full\r\n"},
	} {
		wantDone(t, s, 10, c.cmd, left, c.answer, 0)
	}
	fresh := impl.Store{Limit: 24, Next: 4, Items: []impl.Item{stays, {Key: "k", Data: "y", Token: 3}}}
	wantDone(t, s, 10, impl.Cmd{Name: "add", Keys: k, Data: "y"}, fresh, "STORED\r\n", 0)
	wantDone(t, s, 9, impl.Cmd{Name: "add", Keys: k, Data: "y"}, s, "NOT_STORED\r\n", 0)
	other := impl.Store{Limit: 24, Next: 4, Items: []impl.Item{stays, {Key: "o", Data: "y", Token: 3}}}
	wantDone(t, s, 10, impl.Cmd{Name: "set", Keys: []string{"o"}, Data: "y"}, other, "STORED\r\n", 0)
	wantDone(t, s, 9, impl.Cmd{Name: "set", Keys: []string{"o"}, Data: "y"}, other, "STORED\r\n", 1)
}
