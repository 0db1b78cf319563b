package tests

import (
	"slices"
	"strings"
	"testing"

	"loop.example/g00170/impl"
)

func bytesEvent(text string) impl.Event {
	return impl.Event{Kind: impl.EventBytes, Bytes: text}
}

func beginEvent(nodes []impl.Node) impl.Event {
	return impl.Event{Kind: impl.EventBegin, Nodes: nodes}
}

func copyEvent(many int) impl.Event {
	return impl.Event{Kind: impl.EventCopy, N: many}
}

func endEvent() impl.Event {
	return impl.Event{Kind: impl.EventEnd}
}

func tickEvent(by int) impl.Event {
	return impl.Event{Kind: impl.EventTick, N: by}
}

func crashEvent(name string) impl.Event {
	return impl.Event{Kind: impl.EventCrash, Bytes: name}
}

// lines is a text of lines, each with a line end.
func lines(l ...string) string {
	return strings.Join(l, "\r\n") + "\r\n"
}

// ran runs events that must be taken, and says that the cluster is good then and each answer whole.
func ran(t *testing.T, nodes []impl.Node, limit int, l ...impl.Event) (impl.Cluster, string) {
	t.Helper()
	c, out, ok := impl.RunEvents(nodes, limit, l)
	if !ok {
		t.Fatalf("RunEvents(%v, %d, %+v) says false", nodes, limit, l)
	}
	wantGoodCluster(t, "RunEvents", c)
	wantWhole(t, out)
	return c, out
}

// wantOut holds what goes out of a cluster against what is wanted.
func wantOut(t *testing.T, what string, nodes []impl.Node, limit int, want string, l ...impl.Event) impl.Cluster {
	t.Helper()
	c, out := ran(t, nodes, limit, l...)
	if out != want {
		t.Errorf("%s: %q goes out; want %q", what, out, want)
	}
	return c
}

// wantBoth asks RunEvents of a great cluster and ModelEvents alike.
func wantBoth(t *testing.T, what string, nodes []impl.Node, want string, l ...impl.Event) {
	t.Helper()
	wantOut(t, what, nodes, impl.MaxLimit, want, l...)
	wantModel(t, what, want, 0, l...)
}

func wantModel(t *testing.T, what, want string, lost int, l ...impl.Event) {
	t.Helper()
	if out, gone, ok := impl.ModelEvents(l); out != want || gone != lost || !ok {
		t.Errorf("%s: ModelEvents = %q, %d, %v; want %q, %d, true", what, out, gone, ok, want, lost)
	}
}

func wantNoRun(t *testing.T, what string, nodes []impl.Node, limit int, l []impl.Event) {
	t.Helper()
	if c, out, ok := impl.RunEvents(nodes, limit, l); !isZeroCluster(c) || out != "" || ok {
		t.Errorf("%s: RunEvents = %+v, %q, %v", what, c, out, ok)
	}
}

func wantNoModel(t *testing.T, what string, l []impl.Event) {
	t.Helper()
	if out, lost, ok := impl.ModelEvents(l); out != "" || lost != 0 || ok {
		t.Errorf("%s: ModelEvents = %q, %d, %v", what, out, lost, ok)
	}
}

func wantAnswers(t *testing.T, s string, want ...string) {
	t.Helper()
	if l, ok := impl.AnswersIn(s); !slices.Equal(l, want) || !ok {
		t.Errorf("AnswersIn(%q) = %q, %v; want %q, true", s, l, ok, want)
	}
}

func wantNoAnswers(t *testing.T, what, s string) {
	t.Helper()
	if l, ok := impl.AnswersIn(s); len(l) != 0 || ok {
		t.Errorf("%s: AnswersIn(%q) = %q, %v", what, s, l, ok)
	}
}

func wantWhole(t *testing.T, s string) {
	t.Helper()
	if l, ok := impl.AnswersIn(s); strings.Join(l, "") != s || !ok {
		t.Errorf("AnswersIn(%q) = %q, %v", s, l, ok)
	}
}

// copyOfEvents has texts and lists of its own, so that whose memory is whose can be asked.
func copyOfEvents(l []impl.Event) []impl.Event {
	out := slices.Clone(l)
	for i := range out {
		out[i].Bytes, out[i].Nodes = strings.Clone(out[i].Bytes), copyOfNodes(out[i].Nodes)
	}
	return out
}

func sameEvents(a, b []impl.Event) bool {
	return slices.EqualFunc(a, b, func(a, b impl.Event) bool {
		return a.Kind == b.Kind && a.Bytes == b.Bytes && a.N == b.N && slices.Equal(a.Nodes, b.Nodes)
	})
}

// cut lays each event at its place among the bytes of a text: between the byte at its place and the one ahead.
func cut(text string, at []int, events []impl.Event) []impl.Event {
	var out []impl.Event
	from := 0
	for i, e := range events {
		out = append(out, bytesEvent(text[from:at[i]]), e)
		from = at[i]
	}
	return append(out, bytesEvent(text[from:]))
}
