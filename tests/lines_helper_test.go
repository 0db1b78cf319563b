package tests

import (
	"slices"
	"strings"
	"testing"

	"loop.example/g00170/impl"
)

// script is a text of lines, each with a byte 10.
func script(l ...string) string {
	if len(l) == 0 {
		return ""
	}
	return strings.Join(l, "\n") + "\n"
}

// lineTold is a line and what is told of it, without the byte 10 behind it all.
type lineTold struct{ line, told string }

// linesIn are the lines alone.
func linesIn(l []lineTold) []string {
	var out []string
	for _, x := range l {
		out = append(out, x.line)
	}
	return out
}

func wantCache(t *testing.T, what, text, want string) {
	t.Helper()
	if told := impl.RunCache(text); told != want {
		t.Errorf("%s: RunCache(%q) = %q; want %q", what, text, told, want)
	}
}

// wantTold holds what RunCache tells of each beginning of a script against what is wanted.
func wantTold(t *testing.T, what string, l ...lineTold) {
	t.Helper()
	want := ""
	for i, x := range l {
		want += x.told + "\n"
		wantCache(t, what, script(linesIn(l[:i+1])...), want)
		if t.Failed() {
			return
		}
	}
}

// wantUnknown says that a line is what, wherever it stands, and no event.
func wantUnknown(t *testing.T, line string) {
	t.Helper()
	wantTold(t, "no such line", lineTold{line, "what"}, lineTold{"ring", "a:1"})
	wantTold(t, "no such line while it moves",
		lineTold{"begin b:2", "ok"}, lineTold{line, "what"}, lineTold{"> set k 0 0 5", ""}, lineTold{line, "what"}, lineTold{"> abcde", "STORED$\n"},
		lineTold{"where k", "at b"}, lineTold{line, "what"}, lineTold{"> get k", "VALUE k 0 5$\nabcde$\nEND$\n"}, lineTold{"ring", "a:1 > b:2"})
	wantEvents(t, script(line, "tick 3", line, "end", line), tickEvent(3), endEvent())
}

func wantNoScript(t *testing.T, what, text string) {
	t.Helper()
	wantCache(t, what, text, "")
	if l, ok := impl.EventsOfText(text); len(l) != 0 || ok {
		t.Errorf("%s: EventsOfText = %+v, %v", what, l, ok)
	}
}

func wantEvents(t *testing.T, text string, want ...impl.Event) {
	t.Helper()
	if l, ok := impl.EventsOfText(text); !sameEvents(l, want) || !ok {
		t.Errorf("EventsOfText(%q) = %+v, %v; want %+v, true", text, l, ok, want)
	}
}

// wantNodesBack says that nodes have this text, and that they come back from it.
func wantNodesBack(t *testing.T, nodes []impl.Node, want string) {
	t.Helper()
	if text, ok := impl.NodesText(nodes); text != want || !ok {
		t.Errorf("NodesText(%v) = %q, %v; want %q, true", nodes, text, ok, want)
	}
	if l, ok := impl.ReadNodes(want); !slices.Equal(l, nodes) || !ok {
		t.Errorf("ReadNodes(%q) = %v, %v; want %v, true", want, l, ok, nodes)
	}
}

func wantNoNodesIn(t *testing.T, what, text string) {
	t.Helper()
	if l, ok := impl.ReadNodes(text); len(l) != 0 || ok {
		t.Errorf("%s: ReadNodes(%q) = %v, %v", what, text, l, ok)
	}
}

func wantNoNodesText(t *testing.T, what string, l []impl.Node) {
	t.Helper()
	if text, ok := impl.NodesText(l); text != "" || ok {
		t.Errorf("%s: NodesText = %q, %v", what, text, ok)
	}
}
