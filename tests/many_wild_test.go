package tests

import (
	"math"
	"slices"
	"strings"
	"testing"

	"loop.example/g00170/impl"
)

// wildItems are items for some of the keys, no key and no token twice; some of them are old at 50.
func wildItems(n *numbers, keys []string) []impl.Item {
	var out []impl.Item
	for i, k := range keys {
		if slices.Contains(keys[:i], k) || n.below(3) == 0 {
			continue
		}
		data := make([]byte, pick(n, []int{0, 1, 5, n.below(impl.MaxValue + 1), impl.MaxValue}))
		for j := range data {
			data[j] = pick(n, []byte("\r\n 0VALUEND\xff"))
		}
		out = append(out, impl.Item{Key: k, Flags: pick(n, edgeNumbers), Data: string(data), Until: pick(n, []int{0, 0, 50, 51}), Token: i + 1})
	}
	return out
}

// asked is what a store answers to keys, ten at a time, as one answer.
func asked(t *testing.T, s impl.Store, now int, keys []string, token bool) string {
	t.Helper()
	all := ""
	for some := range slices.Chunk(keys, impl.MaxKeys) {
		then, answer, _ := done(t, s, now, askFor(some, token))
		all += strings.TrimSuffix(answer, noneFound)
		s = then
	}
	return all + noneFound
}

// found are the items that a store has of the keys, in their order.
func found(s impl.Store, now int, keys []string) []impl.Item {
	var out []impl.Item
	for _, k := range keys {
		if it, there := impl.FindItem(s, now, k); there {
			out = append(out, it)
		}
	}
	return out
}

// Promise 6: the nodes' answers to their parts, put together, are what one store with all items would answer.
func TestManyAnswerAsOne(t *testing.T) {
	n := &numbers{}
	parted, twice, missed := 0, 0, 0
	for range 500 {
		l, keys := wildNodes(n), wildKeys(n, n.below(mostAsked+1))
		one := impl.Store{Limit: impl.MaxLimit, Next: 100, Items: wildItems(n, keys)}
		stores := map[string]impl.Store{}
		for _, node := range l {
			stores[node.Name] = impl.Store{Limit: impl.MaxLimit, Next: 100}
		}
		for _, it := range one.Items {
			s := stores[slowOwner(l, it.Key)]
			s.Items = append(s.Items, it)
			stores[slowOwner(l, it.Key)] = s
		}
		parts, ok := impl.SplitKeys(l, keys)
		if !ok {
			t.Fatalf("SplitKeys(%v, %q) says false", l, keys)
		}
		now := pick(n, []int{0, 49, 50, 51})
		for _, token := range withAndWithout {
			var answers []string
			for _, p := range parts {
				answers = append(answers, asked(t, stores[p.Node], now, p.Keys, token))
				wantItems(t, answers[len(answers)-1], token, asRead(found(stores[p.Node], now, p.Keys), token))
			}
			want := asked(t, one, now, keys, token)
			wantMerge(t, l, keys, answers, token, want)
			wantValues(t, found(one, now, keys), token, want)
		}
		told := found(one, now, keys)
		if len(parts) > 1 && len(told) > 1 {
			parted++
		}
		if len(told) < len(keys) {
			missed++
		}
		if len(slices.Compact(slices.Sorted(slices.Values(keys)))) < len(keys) {
			twice++
		}
		if t.Failed() {
			return
		}
	}
	if parted < 200 || twice < 200 || missed < 200 {
		t.Error(parted, twice, missed)
	}
}

// wildList is a list that is told, or one step away from it.
func wildList(n *numbers, edges []impl.Item) []impl.Item {
	var out []impl.Item
	for i := range pick(n, []int{0, 1, 2, 3, 7, mostAsked, mostAsked + 1}) {
		out = append(out, val(pick(n, []string{"k1", "k2", "k3", "END", "VALUE"}), 1+i))
	}
	if len(out) > 0 && n.below(2) == 0 {
		out[n.below(len(out))] = pick(n, edges)
	}
	return out
}

// Promise 10: ValuesText at any items, held against the slow telling; what is told comes back.
func TestValuesTextAtAnyItems(t *testing.T) {
	n := &numbers{}
	good, bad := 0, 0
	var edges []impl.Item
	for _, e := range itemEdges() {
		edges = append(edges, e.it)
	}
	for range 5000 {
		token := n.below(2) == 0
		items := wildList(n, edges)
		before := slices.Clone(items)
		want, ok := slowValues(items, token)
		if ok {
			good++
			wantValues(t, items, token, want)
			wantItems(t, want, token, asRead(items, token))
		} else {
			bad++
			wantNoValues(t, "any items", items, token)
		}
		if !slices.Equal(items, before) {
			t.Fatalf("the items became %+v", items)
		}
		if t.Failed() {
			return
		}
	}
	if good < 500 || bad < 500 {
		t.Error(good, bad)
	}
}

// spoilt is a text with one byte or one row of bytes gone, come, or changed.
func spoilt(n *numbers, s string) string {
	at := n.below(len(s) + 1)
	to := min(len(s), at+n.below(4))
	more := pick(n, []string{"", "", "0", "1", " ", "\r", "\n", "\r\n", "E", "END\r\n", "-", "x", "VALUE x 0 0\r\n\r\n", "\x00"})
	return s[:at] + more + s[to:]
}

// Promise 10: ReadValues at any text, held against the slow telling: what it reads has just this text.
func TestReadValuesAtAnyText(t *testing.T) {
	n := &numbers{}
	read, refused := 0, 0
	lists := tellableLists()
	for range 15000 {
		token := n.below(2) == 0
		text, _ := slowValues(pick(n, lists), token)
		for range n.below(3) {
			text = spoilt(n, text)
		}
		token = token != (n.below(20) == 0)
		want, ok := slowItems(text, token)
		if !ok {
			refused++
			wantNoItems(t, "any text", text, token)
		} else {
			read++
			wantItems(t, text, token, want)
			wantValues(t, want, token, text)
		}
		if t.Failed() {
			return
		}
	}
	if read < 2000 || refused < 2000 {
		t.Error(read, refused)
	}
}

// wildAnswers are right answers to the parts, or a step away from it.
func wildAnswers(n *numbers, l []impl.Node, keys []string, token bool) []string {
	parts, _ := slowSplit(l, keys)
	lists := make([][]impl.Item, len(parts))
	for i, p := range parts {
		for _, k := range p.Keys {
			if n.below(3) > 0 {
				lists[i] = append(lists[i], val(k, 1+n.below(90)))
			}
		}
	}
	if len(lists) > 0 && n.below(2) == 0 {
		changeList(n, lists, keys)
	}
	var answers []string
	for _, items := range lists {
		text, _ := slowValues(items, token)
		answers = append(answers, text)
	}
	if len(answers) == 0 || n.below(2) == 0 {
		return answers
	}
	at := n.below(len(answers))
	switch n.below(4) {
	case 0:
		answers[at] = spoilt(n, answers[at])
	case 1:
		answers = slices.Delete(answers, at, at+1)
	case 2:
		answers = slices.Insert(answers, at, noneFound)
	case 3:
		other := n.below(len(answers))
		answers[at], answers[other] = answers[other], answers[at]
	}
	return answers
}

func changeList(n *numbers, lists [][]impl.Item, keys []string) {
	i := n.below(len(lists))
	if len(lists[i]) == 0 || n.below(3) == 0 {
		lists[i] = slices.Insert(lists[i], n.below(len(lists[i])+1), val(pick(n, keys), 95))
		return
	}
	at, other := n.below(len(lists[i])), n.below(len(lists[i]))
	switch n.below(3) {
	case 0:
		lists[i][at], lists[i][other] = lists[i][other], lists[i][at]
	case 1:
		lists[i] = slices.Insert(lists[i], at, lists[i][other])
	case 2:
		lists[i] = slices.Delete(lists[i], at, at+1)
	}
}

// Promises 6 and 10: SplitKeys and MergeAnswers at any arguments, held against the slow telling; and what was handed in is as it was.
func TestManyAtAnyArguments(t *testing.T) {
	n := &numbers{}
	told := map[string]int{}
	for range 2500 {
		l, keys, token := brokenNodes(n), brokenKeys(n), n.below(2) == 0
		if n.below(3) > 0 {
			l, keys = wildNodes(n), fewKeys(n)
		}
		answers := wildAnswers(n, l, keys, token)
		token = token != (n.below(20) == 0)
		beforeL, beforeKeys, beforeAnswers := slices.Clone(l), slices.Clone(keys), slices.Clone(answers)
		if parts, ok := slowSplit(l, keys); ok {
			wantSplit(t, l, keys, parts...)
		} else {
			wantNoSplit(t, "any arguments", l, keys)
		}
		switch want, ok := slowMerge(l, keys, answers, token); {
		case ok:
			told["merged"]++
			wantMerge(t, l, keys, answers, token, want)
		case slowGoodAsked(l, keys):
			told["bad answers"]++
			wantNoMerge(t, "any answers", l, keys, answers, token)
		default:
			told["bad nodes or keys"]++
			wantNoMerge(t, "any arguments", l, keys, answers, token)
		}
		if !slices.Equal(l, beforeL) || !slices.Equal(keys, beforeKeys) || !slices.Equal(answers, beforeAnswers) {
			t.Fatalf("the arguments became %v, %q, %q", l, keys, answers)
		}
		if t.Failed() {
			return
		}
	}
	for _, what := range []string{"merged", "bad answers", "bad nodes or keys"} {
		if told[what] < 250 {
			t.Error(what, told[what])
		}
	}
}

// fewKeys are drawn of so few that many of them stand more than once.
func fewKeys(n *numbers) []string {
	var out []string
	of := 1 + n.below(8)
	for range n.below(15) {
		out = append(out, keysOf(of)[n.below(of)])
	}
	return out
}

// Promise 10: no list and no text of an answer lies in an argument, or in another answer.
func TestManyAnswersAreNew(t *testing.T) {
	n := &numbers{}
	for range 100 {
		l, keys := wildNodes(n), wildKeys(n, mostAsked)
		parts, _ := impl.SplitKeys(l, keys)
		again, _ := impl.SplitKeys(l, keys)
		given := slices.Concat(namesOf(l), keys)
		if sameList(parts, again) {
			t.Fatal("two answers share their memory")
		}
		for i, p := range parts {
			if sharesOne(append([]string{p.Node}, p.Keys...), given) || sameList(p.Keys, keys) {
				t.Fatalf("%q lies in the arguments", p)
			}
			for _, other := range slices.Concat(parts[:i], again) {
				if sameList(p.Keys, other.Keys) || shares(p.Node, other.Node) {
					t.Fatalf("%q and %q share their memory", p, other)
				}
			}
		}
	}
	for _, items := range tellableLists() {
		for _, token := range withAndWithout {
			text := textOf(t, token, items...)
			read, _ := impl.ReadValues(text, token)
			again, _ := impl.ReadValues(text, token)
			if sharesOne(storeTexts(impl.Store{Items: read}), []string{text}) || sameList(read, again) {
				t.Fatal("the items lie in their text")
			}
			if sharesOne([]string{text}, storeTexts(impl.Store{Items: items})) {
				t.Fatal("the text lies in the items")
			}
		}
	}
	answers := []string{strings.Clone(noneFound)}
	if text, _ := impl.MergeAnswers(twoNodes(), []string{"k1"}, answers, true); sharesOne([]string{text}, answers) {
		t.Error("what is merged lies in an answer")
	}
	answers = []string{textOf(t, true, val("k1", 1))}
	if text, _ := impl.MergeAnswers(twoNodes(), []string{"k1"}, answers, true); sharesOne([]string{text}, answers) {
		t.Error("what is merged lies in an answer")
	}
}

// Promise 10: what lies behind a list's length is neither read, nor written, nor handed out.
func TestBehindTheListsOfMany(t *testing.T) {
	nodes := append(twoNodes(), impl.Node{Name: "c", Weight: 5}, impl.Node{Name: "", Weight: -1})
	keys := []string{"k1", "k2", "k3", "foo", "", "not a key"}
	answers := []string{textOf(t, false, val("k1", 1)), textOf(t, false, val("k2", 2), val("foo", 3)), "behind", "behind"}
	items := []impl.Item{val("k1", 1), val("k2", 2), val("foo", 3), {Key: "not a key", Flags: -1}}
	nodesBefore, keysBefore, answersBefore, itemsBefore := slices.Clone(nodes), slices.Clone(keys), slices.Clone(answers), slices.Clone(items)
	wantSplit(t, nodes[:2], keys[:4], part("a", "k1", "k3"), part("b", "k2", "foo"))
	wantSplit(t, nodes[:2], keys[:0])
	wantMerge(t, nodes[:2], keys[:4], answers[:2], false, textOf(t, false, items[:3]...))
	wantMerge(t, nodes[:2], keys[:1], answers[:1], false, answers[0])
	wantNoMerge(t, "one answer", nodes[:2], keys[:4], answers[:1], false)
	wantValues(t, items[:0], false, noneFound)
	parts, _ := impl.SplitKeys(nodes[:2], keys[:4])
	for _, p := range parts {
		for _, k := range p.Keys[:cap(p.Keys)] {
			if k != "" && !slices.Contains(keys[:4], k) {
				t.Errorf("%q was handed out", k)
			}
		}
	}
	if !slices.Equal(nodes, nodesBefore) || !slices.Equal(keys, keysBefore) || !slices.Equal(answers, answersBefore) || !slices.Equal(items, itemsBefore) {
		t.Error(nodes, keys, answers, items)
	}
}

// Promise 10: texts far beyond each limit get an answer too.
func TestManyAtHugeArguments(t *testing.T) {
	const huge = 1 << 20
	for _, token := range withAndWithout {
		for _, s := range []string{
			strings.Repeat(" ", huge), strings.Repeat("\r\n", huge), strings.Repeat("END\r\n", huge), strings.Repeat("VALUE x 0 0\r\n\r\n", huge/8),
			"VALUE " + strings.Repeat("x", huge) + " 0 0\r\n\r\nEND\r\n", "VALUE x " + strings.Repeat("9", huge) + " 0\r\n\r\nEND\r\n",
			"VALUE x 0 " + strings.Repeat("9", huge) + "\r\n\r\nEND\r\n", "VALUE x 0 0 " + strings.Repeat("0", huge) + "\r\n\r\nEND\r\n",
		} {
			if items, ok := impl.ReadValues(s, token); len(items) != 0 || ok {
				t.Errorf("ReadValues of %d bytes = %d items, %v", len(s), len(items), ok)
			}
			wantNoValues(t, "a huge key", []impl.Item{{Key: s, Token: 1}}, token)
			wantNoValues(t, "huge data", []impl.Item{{Key: "x", Data: s, Token: 1}}, token)
		}
		wantNoValues(t, "the least numbers", []impl.Item{{Key: "x", Flags: math.MinInt, Until: math.MinInt, Token: math.MinInt}}, token)
	}
}
