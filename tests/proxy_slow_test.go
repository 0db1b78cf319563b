package tests

import (
	"regexp"
	"slices"
	"strconv"
	"strings"

	"loop.example/g00170/impl"
)

// slowClient reads by the shapes of the lines, all that has come anew each time.
type slowClient struct {
	all, out string
	answered int
}

func (c *slowClient) send(text string, do func(impl.Cmd) string) {
	c.all += text
	rest := c.all
	for i := 0; ; i++ {
		cmd, taken, code := slowRead(rest)
		if code == impl.WireMore {
			return
		}
		if i == c.answered {
			c.answered++
			faults := map[int]string{impl.WireError: "ERROR\r\n", impl.WireClient: "CLIENT_ERROR bad\r\n", impl.WireLarge: "SERVER_ERROR large\r\n"}
			if code == impl.WireOk {
				c.out += do(cmd)
			} else {
				c.out += faults[code]
			}
		}
		if cmd.Name == "quit" {
			return
		}
		rest = rest[taken:]
	}
}

// slowRun is RunEvents told a second time, by the second telling of the cluster.
func slowRun(nodes []impl.Node, limit int, l []impl.Event) (impl.Cluster, string) {
	c := slowBegin(impl.Cluster{Next: 1, Limit: limit}, nodes)
	c.Nodes, c.Coming = c.Coming, nil
	from := &slowClient{}
	for _, e := range l {
		switch e.Kind {
		case impl.EventBytes:
			from.send(e.Bytes, func(cmd impl.Cmd) string {
				then, answer := slowDoCluster(c, cmd)
				c = then
				return answer
			})
		default:
			c, _ = slowChange(c, e)
		}
	}
	return c, from.out
}

// slowChange is what an event that brings no bytes makes of a cluster, and whether it does something.
func slowChange(c impl.Cluster, e impl.Event) (impl.Cluster, bool) {
	moves := len(c.Coming) > 0
	switch e.Kind {
	case impl.EventBegin:
		if !moves && slowGoodNodes(e.Nodes) && !slices.Equal(c.Nodes, e.Nodes) {
			return slowBegin(c, e.Nodes), true
		}
	case impl.EventCopy:
		if moves && e.N >= 0 && e.N <= mostCopied {
			then, _ := slowCopy(c, e.N)
			return then, true
		}
	case impl.EventEnd:
		if then, ok := slowEnd(c); ok {
			return then, true
		}
	case impl.EventTick:
		if e.N >= 0 && e.N <= impl.MaxNow {
			return slowTick(c, e.N), true
		}
	case impl.EventCrash:
		if slices.ContainsFunc(c.Places, func(p impl.Place) bool { return p.Name == e.Bytes }) {
			then, _ := slowCrash(c, e.Bytes)
			return then, true
		}
	}
	return c, false
}

// slowModel is ModelEvents told a second time.
func slowModel(l []impl.Event) (string, int) {
	s := impl.Store{Limit: impl.MaxLimit, Next: 1}
	now, lost := 0, 0
	from := &slowClient{}
	for _, e := range l {
		switch {
		case e.Kind == impl.EventBytes:
			from.send(e.Bytes, func(cmd impl.Cmd) string {
				then, answer, gone := slowDo(s, now, cmd)
				s, lost = then, lost+gone
				return answer
			})
		case e.Kind == impl.EventTick && e.N >= 0 && e.N <= impl.MaxNow:
			now = min(impl.MaxNow, now+e.N)
		}
	}
	return from.out, lost
}

var (
	answerShape = regexp.MustCompile(`\A(STORED|NOT_STORED|EXISTS|NOT_FOUND|TOUCHED|DELETED|OK|VERSION 1|END|ERROR|CLIENT_ERROR bad|SERVER_ERROR large|SERVER_ERROR full|0|[1-9][0-9]{0,17})\r\n`)
	valueShape  = regexp.MustCompile(`\AVALUE [!-~]{1,30} (0|[1-9][0-9]{0,9}) (0|[1-9][0-9]?|100)( [1-9][0-9]{0,9})?\r\n`)
)

// slowAnswers is AnswersIn told a second time, by shapes.
func slowAnswers(s string) ([]string, bool) {
	var out []string
	for s != "" {
		size := len(answerShape.FindString(s))
		if size == 0 {
			size = slowValuesSize(s)
		}
		if size == 0 {
			return nil, false
		}
		out = append(out, s[:size])
		s = s[size:]
	}
	return out, true
}

// slowValuesSize is how many bytes the values at the front have, to their end; 0 if they are none.
func slowValuesSize(s string) int {
	at, token := 0, ""
	for many := 0; ; many++ {
		if many > 0 && strings.HasPrefix(s[at:], "END\r\n") {
			return at + 5
		}
		m := valueShape.FindStringSubmatch(s[at:])
		if m == nil || many == impl.MaxKeys {
			return 0
		}
		flags, _ := strconv.Atoi(m[1])
		size, _ := strconv.Atoi(m[2])
		number, _ := strconv.Atoi(strings.TrimSpace(m[3]))
		if flags > impl.MaxNumber || number > mostTokens || many > 0 && (m[3] == "") != (token == "") {
			return 0
		}
		token = m[3]
		at += len(m[0]) + size
		if at > len(s) || !strings.HasPrefix(s[at:], "\r\n") {
			return 0
		}
		at += 2
	}
}
