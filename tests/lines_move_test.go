package tests

import (
	"slices"
	"strings"
	"testing"

	"loop.example/g00170/impl"
)

// storedBy are lines that store each key with one byte of Data.
func storedBy(keys ...string) []lineTold {
	var out []lineTold
	for _, k := range keys {
		out = append(out, lineTold{"> set " + k + " 0 0 1", ""}, lineTold{"> x", "STORED$\n"})
	}
	return out
}

func TestBeginLines(t *testing.T) {
	wantTold(t, "the same nodes", lineTold{"begin a:1", "no"}, lineTold{"ring", "a:1"})
	wantTold(t, "another weight", lineTold{"begin a:2", "ok"}, lineTold{"ring", "a:1 > a:2"})
	wantTold(t, "while it moves", lineTold{"begin b:1", "ok"}, lineTold{"begin c:1", "no"}, lineTold{"begin b:1", "no"}, lineTold{"begin a:1", "no"}, lineTold{"ring", "a:1 > b:1"})
	wantTold(t, "again", lineTold{"begin b:1", "ok"}, lineTold{"end", "ok"}, lineTold{"begin b:1", "no"}, lineTold{"begin a:1", "ok"}, lineTold{"ring", "b:1 > a:1"}, lineTold{"end", "ok"}, lineTold{"ring", "a:1"})
	eight := "node0:5 node1:5 node2:5 node3:5 node4:5 node5:5 node6:5 node7:5"
	wantTold(t, "eight nodes", lineTold{"begin " + eight, "ok"}, lineTold{"ring", "a:1 > " + eight}, lineTold{"end", "ok"}, lineTold{"ring", eight})
	wantTold(t, "words of lines as names", lineTold{"begin end:1 ring:2", "ok"}, lineTold{"crash end", "ok"}, lineTold{"crash ring", "ok"}, lineTold{"crash lost", "no"})
}

func TestCopyLines(t *testing.T) {
	for _, many := range []string{"0", "1", "100", "101", "1000000000"} {
		wantTold(t, "nothing moves", lineTold{"copy " + many, "no"}, lineTold{"ring", "a:1"})
	}
	for many, told := range map[string]string{"0": "ok", "1": "ok", "99": "ok", "100": "ok", "101": "no", "102": "no", "1000": "no", "1000000000": "no"} {
		wantTold(t, "nothing to move", lineTold{"begin b:1", "ok"}, lineTold{"copy " + many, told}, lineTold{"end", "ok"})
	}
	l := append(storedBy("k1", "k2", "k3"), lineTold{"begin b:1", "ok"})
	wantTold(t, "above a hundred", append(l, lineTold{"copy 101", "no"}, lineTold{"where k1", "at a"}, lineTold{"copy 0", "ok"}, lineTold{"where k1", "at a"},
		lineTold{"copy 1", "ok"}, lineTold{"where k1", "at b"}, lineTold{"where k2", "at a"}, lineTold{"copy 100", "ok"}, lineTold{"where k2", "at b"}, lineTold{"where k3", "at b"}, lineTold{"copy 1", "ok"})...)
	wantTold(t, "the one used longest ago first", append(slices.Clone(l), lineTold{"> set k1 0 0 1", ""}, lineTold{"> y", "STORED$\n"}, lineTold{"where k1", "at b"}, lineTold{"copy 1", "ok"}, lineTold{"where k2", "at b"}, lineTold{"where k3", "at a"})...)
}

func TestEndLines(t *testing.T) {
	wantTold(t, "nothing moves", lineTold{"end", "no"}, lineTold{"end", "no"}, lineTold{"ring", "a:1"})
	wantTold(t, "keys are left", append(storedBy("k1", "k2"), lineTold{"end", "no"}, lineTold{"begin b:1", "ok"}, lineTold{"end", "no"}, lineTold{"copy 1", "ok"}, lineTold{"end", "no"}, lineTold{"ring", "a:1 > b:1"},
		lineTold{"copy 1", "ok"}, lineTold{"end", "ok"}, lineTold{"ring", "b:1"}, lineTold{"end", "no"})...)
	wantTold(t, "old ones were left", lineTold{"> set k1 0 3 1", ""}, lineTold{"> x", "STORED$\n"}, lineTold{"begin b:1", "ok"}, lineTold{"tick 2", "ok"}, lineTold{"end", "no"}, lineTold{"tick 1", "ok"}, lineTold{"end", "ok"}, lineTold{"ring", "b:1"})
	wantTold(t, "all went in a crash", append(storedBy("k1", "k2"), lineTold{"begin b:1", "ok"}, lineTold{"crash a", "ok"}, lineTold{"end", "ok"})...)
	wantTold(t, "all were asked for", append(storedBy("k1", "k2"), lineTold{"begin b:1", "ok"}, lineTold{"> get k2 k1 k2", "VALUE k2 0 1$\nx$\nVALUE k1 0 1$\nx$\nVALUE k2 0 1$\nx$\nEND$\n"}, lineTold{"end", "ok"})...)
	wantTold(t, "none has another owner", append(storedBy("k1"), lineTold{"begin a:1 b:2", "ok"}, lineTold{"end", "ok"}, lineTold{"where k1", "at a"})...)
}

// A tick of a number of chapter 1 is taken; time that comes to MaxNow stands still there.
func TestTickLines(t *testing.T) {
	for _, by := range []string{"0", "1", "999999999", "1000000000"} {
		wantTold(t, "a tick", lineTold{"tick " + by, "ok"}, lineTold{"tick " + by, "ok"}, lineTold{"tick 1000000000", "ok"}, lineTold{"tick 1", "ok"})
	}
	set := []lineTold{{"> set k 0 1000000000 1", ""}, {"> x", "STORED$\n"}, {"where k", "at a"}}
	wantTold(t, "just to MaxNow", append(set, lineTold{"tick 999999999", "ok"}, lineTold{"where k", "at a"}, lineTold{"tick 1", "ok"}, lineTold{"where k", "at"})...)
	wantTold(t, "above MaxNow in all", append(slices.Clone(set), lineTold{"tick 1", "ok"}, lineTold{"where k", "at a"}, lineTold{"tick 1000000000", "ok"}, lineTold{"where k", "at"})...)
	late := []lineTold{{"tick 1000000000", "ok"}, {"tick 1000000000", "ok"}}
	wantTold(t, "stored at MaxNow", append(append(late, set...), lineTold{"tick 1000000000", "ok"}, lineTold{"tick 5", "ok"}, lineTold{"where k", "at a"})...)
	wantTold(t, "for good", append(storedBy("k"), lineTold{"tick 1000000000", "ok"}, lineTold{"where k", "at a"})...)
}

func TestCrashLines(t *testing.T) {
	for _, name := range []string{"b", "A", "aa", "0", "a:1", ":", "abcdefgh", "abcdefghi", "a\r", "\ra", "\x00", "\xff", "\u00e9", ">", "crash", key(1000)} {
		wantTold(t, "no place", append(storedBy("k1"), lineTold{"crash " + name, "no"}, lineTold{"where k1", "at a"})...)
		wantEvents(t, script("crash "+name), crashEvent(name))
	}
	wantTold(t, "the place", append(storedBy("k1", "k2"), lineTold{"crash a", "ok"}, lineTold{"where k1", "at"}, lineTold{"where k2", "at"}, lineTold{"> get k1 k2", "END$\n"}, lineTold{"crash a", "ok"}, lineTold{"lost", "lost 0"})...)
	wantTold(t, "those who come and go", append(storedBy("k1", "k2"), lineTold{"crash b", "no"}, lineTold{"begin b:1", "ok"}, lineTold{"crash b", "ok"}, lineTold{"where k1", "at a"}, lineTold{"copy 1", "ok"}, lineTold{"crash b", "ok"},
		lineTold{"where k1", "at"}, lineTold{"where k2", "at a"}, lineTold{"copy 1", "ok"}, lineTold{"crash a", "ok"}, lineTold{"where k2", "at b"}, lineTold{"end", "ok"}, lineTold{"crash a", "no"}, lineTold{"crash b", "ok"}, lineTold{"where k2", "at"})...)
}

func TestWhereLines(t *testing.T) {
	wantTold(t, "not there", lineTold{"where k", "at"}, lineTold{"where where", "at"}, lineTold{"where " + key(impl.MaxKey), "at"}, lineTold{"where !~", "at"})
	wantTold(t, "there", append(storedBy("k", "!~", key(impl.MaxKey), "where"), lineTold{"where k", "at a"}, lineTold{"where !~", "at a"}, lineTold{"where " + key(impl.MaxKey), "at a"}, lineTold{"where where", "at a"}, lineTold{"where kk", "at"}, lineTold{"where K", "at"})...)
	wantTold(t, "there no more", append(storedBy("k"), lineTold{"> delete k", "DELETED$\n"}, lineTold{"where k", "at"})...)
	wantTold(t, "old", lineTold{"> set k 0 2 1", ""}, lineTold{"> x", "STORED$\n"}, lineTold{"tick 1", "ok"}, lineTold{"where k", "at a"}, lineTold{"tick 1", "ok"}, lineTold{"where k", "at"})
	wantTold(t, "touched", lineTold{"> set k 0 2 1", ""}, lineTold{"> x", "STORED$\n"}, lineTold{"tick 1", "ok"}, lineTold{"> touch k 2", "TOUCHED$\n"}, lineTold{"tick 1", "ok"}, lineTold{"where k", "at a"}, lineTold{"tick 1", "ok"}, lineTold{"where k", "at"})
	wantTold(t, "not stored yet", lineTold{"> set k 0 0 1", ""}, lineTold{"where k", "at"}, lineTold{"> x", "STORED$\n"}, lineTold{"where k", "at a"})
	wantTold(t, "to ask where it stands moves nothing", append(storedBy("k1"), lineTold{"begin b:1", "ok"}, lineTold{"where k1", "at a"}, lineTold{"where k1", "at a"}, lineTold{"end", "no"}, lineTold{"> touch k1 0", "TOUCHED$\n"}, lineTold{"where k1", "at b"})...)
	wantTold(t, "where they belong", append(storedBy("k1", "k2", "k3", "foo"), lineTold{"begin a:1 b:2", "ok"}, lineTold{"copy 100", "ok"}, lineTold{"where k1", "at a"}, lineTold{"where k2", "at b"}, lineTold{"where k3", "at a"}, lineTold{"where foo", "at b"})...)
}

// No script can store so much that something is forgotten for room, and a crash is not counted: it is 0 wherever it is asked.
func TestLostLines(t *testing.T) {
	var l []lineTold
	for i := range impl.MaxLines/2 - 2 {
		l = append(l, storedBy(twoDigits(i))...)
	}
	wantTold(t, "as many as may be", append(l, lineTold{"begin b:1", "ok"}, lineTold{"copy 100", "ok"}, lineTold{"crash b", "ok"}, lineTold{"lost", "lost 0"})...)
	room := "> " + key(impl.MaxValue)
	l = nil
	for i := range 20 {
		l = append(l, lineTold{"> set " + twoDigits(i) + " 0 0 100", ""}, lineTold{room, "STORED$\n"})
	}
	wantTold(t, "as great as may be", append(l, lineTold{"lost", "lost 0"}, lineTold{"where 00", "at a"})...)
}

func TestRingLines(t *testing.T) {
	wantTold(t, "at rest and while it moves", lineTold{"ring", "a:1"}, lineTold{"begin a:5 zz:2", "ok"}, lineTold{"ring", "a:1 > a:5 zz:2"}, lineTold{"ring", "a:1 > a:5 zz:2"}, lineTold{"end", "ok"}, lineTold{"ring", "a:5 zz:2"},
		lineTold{"begin 0:3", "ok"}, lineTold{"ring", "a:5 zz:2 > 0:3"}, lineTold{"end", "ok"}, lineTold{"ring", "0:3"})
	wantTold(t, "what is no event changes no ring", append(storedBy("k1"), lineTold{"ring", "a:1"}, lineTold{"crash a", "ok"}, lineTold{"tick 5", "ok"}, lineTold{"ring", "a:1"})...)
}

// As many lines as a script may have may all count, with ok and with no; a script can't have more of them.
func TestMostLinesThatCount(t *testing.T) {
	for _, x := range []lineTold{{"tick 1", "ok"}, {"begin a:1", "no"}, {"copy 1", "no"}, {"end", "no"}, {"crash a", "ok"}, {"crash b", "no"}, {"> version", "VERSION 1$\n"}, {"> ", "ERROR$\n"}} {
		text := strings.Repeat(x.line+"\n", impl.MaxEvents)
		wantCache(t, "all count", text, strings.Repeat(x.told+"\n", impl.MaxEvents))
		if l, ok := impl.EventsOfText(text); len(l) != impl.MaxEvents || !ok {
			t.Errorf("EventsOfText of sixty %q tells %d events, %v", x.line, len(l), ok)
		}
		for _, line := range []string{"tick 1", "begin b:1", "copy 1", "end", "crash a", "> version", "ring", "lost", "where k", "fly", ""} {
			wantNoScript(t, "one more", text+line+"\n")
			few := strings.TrimPrefix(text, x.line+"\n")
			told := strings.TrimSuffix(impl.RunCache(few+line+"\n"), "\n")
			if !strings.HasPrefix(told, strings.Repeat(x.told+"\n", impl.MaxEvents-1)) {
				t.Errorf("behind 59 lines %q tells %q", line, told)
			}
		}
	}
}
