package tests

import (
	"fmt"
	"regexp"
	"strconv"
	"strings"

	"loop.example/g00170/impl"
)

const numberForm = `(0|[1-9][0-9]{0,8}|1000000000)`

var (
	nodesShape = regexp.MustCompile(`\A[a-z0-9]{1,8}:[1-5]( [a-z0-9]{1,8}:[1-5]){0,7}\z`)
	bytesShape = regexp.MustCompile(`\A> ((?s).*)\z`)
	beginShape = regexp.MustCompile(`\Abegin (.*)\z`)
	copyShape  = regexp.MustCompile(`\Acopy ` + numberForm + `\z`)
	tickShape  = regexp.MustCompile(`\Atick ` + numberForm + `\z`)
	crashShape = regexp.MustCompile(`\Acrash ([^ ]+)\z`)
	whereShape = regexp.MustCompile(`\Awhere ([!-~]{1,30})\z`)
)

// slowNodes is ReadNodes told a second time, by the shape of the text.
func slowNodes(s string) ([]impl.Node, bool) {
	if !nodesShape.MatchString(s) {
		return nil, false
	}
	var out []impl.Node
	for _, word := range strings.Fields(s) {
		colon := len(word) - 2
		out = append(out, impl.Node{Name: word[:colon], Weight: int(word[colon+1] - '0')})
	}
	if !slowGoodNodes(out) {
		return nil, false
	}
	return out, true
}

// slowNodesText is of good nodes.
func slowNodesText(l []impl.Node) string {
	text := ""
	for _, n := range l {
		text += fmt.Sprintf(" %s:%d", n.Name, n.Weight)
	}
	return text[1:]
}

// slowPlayer is RunCache told a second time, by the shapes of the lines and the second telling of the cluster.
type slowPlayer struct {
	c      impl.Cluster
	from   slowClient
	events []impl.Event
	told   []string
}

// slowPlays is of a text that is a script, line by line.
func slowPlays(text string) (*slowPlayer, bool) {
	if len(text) > 2500 || strings.Count(text, "\n") > 60 || text != "" && text[len(text)-1] != '\n' {
		return nil, false
	}
	p := &slowPlayer{c: slowBegin(impl.Cluster{Next: 1, Limit: impl.MaxLimit}, oneNode("a"))}
	p.c.Nodes, p.c.Coming = p.c.Coming, nil
	for line := range strings.Lines(text) {
		p.told = append(p.told, p.answer(line[:len(line)-1])+"\n")
	}
	return p, true
}

func (p *slowPlayer) answer(line string) string {
	if m := whereShape.FindStringSubmatch(line); m != nil {
		return strings.Join(append([]string{"at"}, slowPlacesOf(p.c, m[1])...), " ")
	}
	switch line {
	case "lost":
		return fmt.Sprintf("lost %d", p.c.Lost)
	case "ring":
		text := slowNodesText(p.c.Nodes)
		if len(p.c.Coming) > 0 {
			text += " > " + slowNodesText(p.c.Coming)
		}
		return text
	}
	e, ok := slowEvent(line)
	if !ok || len(p.events) >= 60 {
		return "what"
	}
	p.events = append(p.events, e)
	if e.Kind == impl.EventBytes {
		return p.send(e.Bytes)
	}
	then, done := slowChange(p.c, e)
	if !done {
		return "no"
	}
	p.c = then
	return "ok"
}

func (p *slowPlayer) send(text string) string {
	p.from.out = ""
	p.from.send(text, func(cmd impl.Cmd) string {
		then, answer := slowDoCluster(p.c, cmd)
		p.c = then
		return answer
	})
	return strings.ReplaceAll(p.from.out, "\r", "$")
}

func slowEvent(line string) (impl.Event, bool) {
	if m := bytesShape.FindStringSubmatch(line); m != nil {
		return bytesEvent(m[1] + "\r\n"), true
	}
	if m := beginShape.FindStringSubmatch(line); m != nil {
		nodes, ok := slowNodes(m[1])
		return beginEvent(nodes), ok
	}
	if m := copyShape.FindStringSubmatch(line); m != nil {
		many, _ := strconv.Atoi(m[1])
		return copyEvent(many), true
	}
	if m := tickShape.FindStringSubmatch(line); m != nil {
		by, _ := strconv.Atoi(m[1])
		return tickEvent(by), true
	}
	if m := crashShape.FindStringSubmatch(line); m != nil {
		return crashEvent(m[1]), true
	}
	return endEvent(), line == "end"
}
