package tests

import (
	"testing"

	"loop.example/g00170/impl"
)

func TestGoodSession(t *testing.T) {
	for what, s := range goodSessions() {
		if !impl.GoodSession(s) {
			t.Errorf("%s: GoodSession(%#v) says false", what, s)
		}
		if !slowGoodSession(s) {
			t.Errorf("%s: the slow telling says false", what)
		}
	}
}

func TestSessionsThatAreNotGood(t *testing.T) {
	for what, s := range badSessions() {
		if impl.GoodSession(s) {
			t.Errorf("%s: GoodSession(%#v) says true", what, s)
		}
		if slowGoodSession(s) {
			t.Errorf("%s: the slow telling says true", what)
		}
	}
}

// Of a session that is not good there is the zero answer, whatever else holds.
func TestNothingInASessionThatIsNotGood(t *testing.T) {
	for what, s := range badSessions() {
		t.Run(what, func(t *testing.T) {
			wantOpen(t, s, impl.Session{}, 0, false)
			wantOpenIds(t, s, nil, false)
			wantNoClose(t, s, 0, "x")
			wantNoClose(t, s, -1, "x")
			for _, one := range s.Slots {
				wantNoClose(t, s, one.Id, "x")
				wantNoClose(t, s, one.Id, "")
			}
		})
	}
}

func TestGoodSessionAgainstSlow(t *testing.T) {
	n := &numbers{}
	good, bad := 0, 0
	for range 20000 {
		s := wildSession(n)
		want := slowGoodSession(s)
		if got := impl.GoodSession(s); got != want {
			t.Fatalf("GoodSession(%#v) = %v", s, got)
		}
		if want {
			good++
		} else {
			bad++
		}
	}
	if good < 1000 || bad < 1000 {
		t.Error(good, bad)
	}
}
