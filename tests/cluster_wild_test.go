package tests

import (
	"slices"
	"strings"
	"testing"

	"loop.example/g00170/impl"
)

// wildStart is a new cluster, or one whose numbers are near their ends.
func wildStart(t *testing.T, n *numbers) impl.Cluster {
	t.Helper()
	c := newCluster(t, fewNodes(n), pick(n, []int{0, 12, 40, 130, 130, 300, 300, 1000, impl.MaxLimit}))
	if n.below(3) == 0 {
		c.Now = pick(n, []int{7, impl.MaxNow - 60, impl.MaxNow})
		c.Next = pick(n, []int{5, mostTokens - 20, mostTokens})
		c.Lost = pick(n, []int{1, mostLost - 3, mostLost})
	}
	return c
}

// fewNodes are so few, most of the time, that their stores get full.
func fewNodes(n *numbers) []impl.Node {
	l := wildNodes(n)
	return l[:min(len(l), pick(n, []int{1, 2, 2, 3, impl.MaxNodes}))]
}

// otherNodes are some to move to: near those that are there, or all new ones.
func otherNodes(n *numbers, l []impl.Node) []impl.Node {
	out := slices.Clone(l)
	at := n.below(len(l))
	switch n.below(5) {
	case 0:
		out[at].Weight = 1 + n.below(impl.MaxWeight)
	case 1:
		if len(out) > 1 {
			out = without(out, at)
		}
	case 2:
		if len(out) < impl.MaxNodes {
			weights := map[string]int{"new" + twoDigits(n.below(100)): 1 + n.below(impl.MaxWeight)}
			for _, node := range out {
				weights[node.Name] = node.Weight
			}
			out = nodesOf(weights)
		}
	default:
		out = fewNodes(n)
	}
	return out
}

// wildStep does one thing of all that a cluster does, and holds all that is
// answered against the slow telling; it tells what was done.
func wildStep(t *testing.T, n *numbers, c impl.Cluster, keys int) (impl.Cluster, string) {
	t.Helper()
	switch n.below(22) {
	case 0, 1, 2:
		return stepBegin(t, n, c)
	case 3:
		return stepCopy(t, c, pick(n, []int{0, 1, 2, 3, 10, mostCopied}))
	case 4, 5:
		return stepEnd(t, c)
	case 6, 7:
		by := pick(n, []int{0, 1, 2, 5, 13, 30})
		then := ticked(t, c, by)
		wantCluster(t, "a tick", then, slowTick(c, by))
		return then, "tick"
	case 8:
		if n.below(2) > 0 {
			return c, "nothing"
		}
		name := pick(n, c.Places).Name
		want, had := slowCrash(c, name)
		then, many := crashed(t, c, name)
		wantCluster(t, "a crash", then, want)
		if many != had {
			t.Errorf("CrashNode of %q tells %d of %+v", name, many, c)
		}
		return then, "crash"
	case 9:
		return stepFill(t, n, c, keys)
	}
	return stepDo(t, n, c, wildCmd(n, keys, pick(n, c.Places).Store))
}

// stepFill stores so many for good that there is something to move and to forget.
func stepFill(t *testing.T, n *numbers, c impl.Cluster, keys int) (impl.Cluster, string) {
	t.Helper()
	for range 25 {
		k := twoDigits(n.below(keys))
		c, _ = stepDo(t, n, c, impl.Cmd{Name: "set", Keys: []string{k}, Data: strings.Repeat("f", n.below(60))})
	}
	return c, "fill"
}

func stepBegin(t *testing.T, n *numbers, c impl.Cluster) (impl.Cluster, string) {
	t.Helper()
	nodes := otherNodes(n, c.Nodes)
	if len(c.Coming) > 0 || slices.Equal(nodes, c.Nodes) {
		wantNoBegin(t, "a cluster that moves, or the same nodes", c, nodes)
		return c, "no begin"
	}
	then := begun(t, c, nodes)
	wantCluster(t, "a beginning", then, slowBegin(c, nodes))
	return then, "begin"
}

func stepCopy(t *testing.T, c impl.Cluster, many int) (impl.Cluster, string) {
	t.Helper()
	if len(c.Coming) == 0 {
		wantNoCopy(t, "nothing is coming", c, many)
		return c, "no copy"
	}
	want, moved := slowCopy(c, many)
	then, got := copied(t, c, many)
	wantCluster(t, "a copy", then, want)
	if got != moved || got > many {
		t.Errorf("CopySome of %d tells %d; want %d", many, got, moved)
	}
	if then.Lost > c.Lost {
		return then, "copy that forgets"
	}
	return then, "copy"
}

func stepEnd(t *testing.T, c impl.Cluster) (impl.Cluster, string) {
	t.Helper()
	want, ok := slowEnd(c)
	if !ok {
		wantNoEnd(t, "not at the end", c)
		return c, "no end"
	}
	then := ended(t, c)
	wantCluster(t, "an end", then, want)
	return then, "end"
}

func stepDo(t *testing.T, n *numbers, c impl.Cluster, cmd impl.Cmd) (impl.Cluster, string) {
	t.Helper()
	want, answer := slowDoCluster(c, cmd)
	then, got := doneIn(t, c, cmd)
	wantCluster(t, cmd.Name, then, want)
	if got != answer {
		t.Errorf("%+v of %+v answers %q; want %q", cmd, c, got, answer)
	}
	wantWhereTheyBelong(t, then, cmd.Keys)
	if then.Lost > c.Lost && slices.Contains([]string{"get", "gets", "touch", "delete"}, cmd.Name) {
		return then, "move that forgets"
	}
	if len(c.Coming) > 0 {
		return then, cmd.Name + " that moves"
	}
	return then, cmd.Name
}

// wantWhereTheyBelong says of each of the keys that is there that it stands at its owner of the last nodes, and nowhere else.
func wantWhereTheyBelong(t *testing.T, c impl.Cluster, keys []string) {
	t.Helper()
	last := c.Coming
	if len(last) == 0 {
		last = c.Nodes
	}
	for _, k := range keys {
		names, ok := impl.PlacesOf(c, k)
		if !ok || len(names) > 1 || len(names) == 1 && names[0] != ownerMemo(last, k) {
			t.Errorf("%q stands at %q in %+v", k, names, c)
		}
	}
}

// Promise 7, over long rows of commands, moves, copies, ticks and crashes:
// behind each the cluster is good, it and the answer are those of the second
// telling, and each key stands in one place at most.
func TestClusterAgainstSlowCluster(t *testing.T) {
	n := &numbers{}
	did := map[string]int{}
	for range 90 {
		c, keys := wildStart(t, n), pick(n, []int{3, 8, 30, 90})
		for range 120 {
			before := copyOfCluster(c)
			then, what := wildStep(t, n, c, keys)
			if !sameCluster(c, before) {
				t.Fatalf("%s: the argument became %+v; it was %+v", what, c, before)
			}
			did[what]++
			c = then
			k := twoDigits(n.below(keys))
			wantPlaces(t, c, k, slowPlacesOf(c, k)...)
			if t.Failed() {
				return
			}
		}
		for i := range keys {
			if names, ok := impl.PlacesOf(c, twoDigits(i)); len(names) > 1 || !ok {
				t.Fatalf("%s stands at %q, %v", twoDigits(i), names, ok)
			}
		}
	}
	for _, what := range []string{"begin", "no begin", "copy", "no copy", "copy that forgets", "end", "no end", "tick", "crash", "get", "gets that moves",
		"move that forgets", "set", "set that moves", "cas that moves", "append that moves", "incr that moves", "touch that moves", "delete that moves", "flush_all that moves", "version that moves", "quit that moves"} {
		if did[what] < 10 {
			t.Error(what, did[what])
		}
	}
}

// Promise 7: a cluster that is used, moved to the end: all keys stand where
// they belong, as many as there were but for those that were forgotten or old.
func TestMovedToTheEnd(t *testing.T) {
	n := &numbers{}
	forgot, old, kept := 0, 0, 0
	for range 60 {
		c, keys := wildStart(t, n), pick(n, []int{8, 30, 90})
		c.Now, c.Next, c.Lost = 0, 1, 0
		for range 150 {
			if c, _ = wildStep(t, n, c, keys); t.Failed() {
				return
			}
		}
		if len(c.Coming) == 0 {
			nodes := otherNodes(n, c.Nodes)
			if slices.Equal(nodes, c.Nodes) {
				continue
			}
			c = begun(t, c, nodes)
		}
		if c.Now < impl.MaxNow-100 && n.below(2) == 0 {
			c.Now += 15
		}
		young := slices.DeleteFunc(itemsIn(c), func(it impl.Item) bool { return it.Until > 0 && it.Until <= c.Now })
		old += len(itemsIn(c)) - len(young)
		then := toTheEnd(t, n, c)
		if len(itemsIn(then)) != len(young)-(then.Lost-c.Lost) {
			t.Fatalf("%d items are left of %d, and %d were forgotten", len(itemsIn(then)), len(young), then.Lost-c.Lost)
		}
		forgot += then.Lost - c.Lost
		kept += len(itemsIn(then))
		for _, it := range itemsIn(then) {
			if !slices.Contains(young, it) {
				t.Fatalf("%+v was not there", it)
			}
			wantPlaces(t, then, it.Key, ownerMemo(c.Coming, it.Key))
		}
		if !slices.Equal(then.Nodes, c.Coming) || len(then.Coming) != 0 || len(then.Places) != len(then.Nodes) {
			t.Fatalf("at the end the cluster is %+v", then)
		}
	}
	if forgot < 10 || old < 10 || kept < 100 {
		t.Error(forgot, old, kept)
	}
}

// toTheEnd copies till there is nothing to copy, and ends; before that no end is told.
func toTheEnd(t *testing.T, n *numbers, c impl.Cluster) impl.Cluster {
	t.Helper()
	for range 2 * impl.MaxNodes * impl.MaxItems {
		then, moved := copied(t, c, 1+n.below(7))
		if moved == 0 {
			return ended(t, then)
		}
		if _, left := slowCopy(c, 1); left > 0 {
			wantNoEnd(t, "some are left", c)
		}
		c = then
	}
	t.Fatalf("there is always more to copy: %+v", c)
	return c
}
