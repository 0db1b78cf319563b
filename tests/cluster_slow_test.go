package tests

import (
	"slices"
	"strings"

	"loop.example/g00170/impl"
)

// slowGoodCluster is GoodCluster told a second time: each against each.
func slowGoodCluster(c impl.Cluster) bool {
	within := func(n, least, most int) bool { return n >= least && n <= most }
	if !within(c.Now, 0, impl.MaxNow) || !within(c.Next, 1, mostTokens) || !within(c.Limit, 0, impl.MaxLimit) || !within(c.Lost, 0, mostLost) {
		return false
	}
	if !slowGoodNodes(c.Nodes) || len(c.Coming) > 0 && !slowGoodNodes(c.Coming) {
		return false
	}
	isNode := func(name string) bool { return slices.Contains(namesOf(slices.Concat(c.Nodes, c.Coming)), name) }
	for _, name := range namesOf(slices.Concat(c.Nodes, c.Coming)) {
		if !slices.ContainsFunc(c.Places, func(p impl.Place) bool { return p.Name == name }) {
			return false
		}
	}
	for i, p := range c.Places {
		if !isNode(p.Name) || i > 0 && p.Name <= c.Places[i-1].Name {
			return false
		}
		if !slowGood(p.Store) || p.Store.Limit != c.Limit || p.Store.Next > c.Next {
			return false
		}
	}
	items := itemsIn(c)
	for i, it := range items {
		for _, other := range items[:i] {
			if it.Key == other.Key || it.Token == other.Token {
				return false
			}
		}
	}
	return slowAllBelong(c)
}

func slowAllBelong(c impl.Cluster) bool {
	for _, p := range c.Places {
		for _, it := range p.Store.Items {
			if ownerMemo(c.Nodes, it.Key) != p.Name && (len(c.Coming) == 0 || ownerMemo(c.Coming, it.Key) != p.Name) {
				return false
			}
		}
	}
	return true
}

// slowCluster is the chapter told a second time, on the cluster as it is told.
type slowCluster struct{ impl.Cluster }

func slowOf(c impl.Cluster) *slowCluster {
	return &slowCluster{copyOfCluster(c)}
}

func (c *slowCluster) store(name string) *impl.Store {
	for i := range c.Places {
		if c.Places[i].Name == name {
			return &c.Places[i].Store
		}
	}
	return nil
}

func (c *slowCluster) lose(many int) {
	c.Lost = min(mostLost, c.Lost+many)
}

func (c *slowCluster) dropOld() {
	for i := range c.Places {
		s := &c.Places[i].Store
		s.Items = slices.DeleteFunc(s.Items, func(it impl.Item) bool { return it.Until > 0 && c.Now >= it.Until })
	}
}

// ownerNow is where a key belongs at last.
func (c *slowCluster) ownerNow(key string) string {
	if len(c.Coming) > 0 {
		return ownerMemo(c.Coming, key)
	}
	return ownerMemo(c.Nodes, key)
}

func (c *slowCluster) move(key string) {
	from, to := c.store(ownerMemo(c.Nodes, key)), c.store(c.ownerNow(key))
	at := slices.IndexFunc(from.Items, func(it impl.Item) bool { return it.Key == key })
	if from == to || at < 0 {
		return
	}
	it := from.Items[at]
	from.Items = slices.Delete(from.Items, at, at+1)
	to.Items = append(to.Items, it)
	to.Next = max(to.Next, it.Token+1)
	for chargeByHand(to.Items) > to.Limit || len(to.Items) > impl.MaxItems {
		to.Items = to.Items[1:]
		c.lose(1)
	}
}

func (c *slowCluster) get(cmd impl.Cmd) string {
	text := ""
	for _, k := range cmd.Keys {
		s := c.store(c.ownerNow(k))
		then, answer, _ := slowDo(*s, c.Now, impl.Cmd{Name: cmd.Name, Keys: []string{k}})
		*s = then
		text += strings.TrimSuffix(answer, "END\r\n")
	}
	return text + "END\r\n"
}

func slowDoCluster(from impl.Cluster, cmd impl.Cmd) (impl.Cluster, string) {
	c := slowOf(from)
	c.dropOld()
	for _, k := range cmd.Keys {
		c.move(k)
	}
	answer := ""
	switch cmd.Name {
	case "get", "gets":
		answer = c.get(cmd)
	case "flush_all":
		answer = "OK\r\n"
		for i := range c.Places {
			c.Places[i].Store.Items = nil
		}
	case "version":
		answer = "VERSION 1\r\n"
	case "quit":
	default:
		s := c.store(c.ownerNow(cmd.Keys[0]))
		s.Next = c.Next
		then, text, lost := slowDo(*s, c.Now, cmd)
		*s, c.Next, answer = then, then.Next, text
		c.lose(lost)
	}
	return c.Cluster, answer
}

func slowBegin(from impl.Cluster, nodes []impl.Node) impl.Cluster {
	c := slowOf(from)
	c.Coming = copyOfNodes(nodes)
	for _, n := range nodes {
		if c.store(n.Name) == nil {
			c.Places = append(c.Places, impl.Place{Name: n.Name, Store: impl.Store{Limit: c.Limit, Next: 1}})
		}
	}
	slices.SortFunc(c.Places, func(a, b impl.Place) int { return strings.Compare(a.Name, b.Name) })
	return c.Cluster
}

// firstLeft is the first key, by place and item, that does not stand where it belongs at last.
func (c *slowCluster) firstLeft() string {
	for _, p := range c.Places {
		for _, it := range p.Store.Items {
			if ownerMemo(c.Nodes, it.Key) == p.Name && c.ownerNow(it.Key) != p.Name {
				return it.Key
			}
		}
	}
	return ""
}

// slowCopy looks for the first one anew each time.
func slowCopy(from impl.Cluster, many int) (impl.Cluster, int) {
	c := slowOf(from)
	c.dropOld()
	moved := 0
	for k := c.firstLeft(); moved < many && k != ""; k = c.firstLeft() {
		c.move(k)
		moved++
	}
	return c.Cluster, moved
}

func slowEnd(from impl.Cluster) (impl.Cluster, bool) {
	c := slowOf(from)
	c.dropOld()
	if len(c.Coming) == 0 || c.firstLeft() != "" {
		return impl.Cluster{}, false
	}
	c.Nodes, c.Coming = c.Coming, nil
	c.Places = slices.DeleteFunc(c.Places, func(p impl.Place) bool { return !slices.Contains(namesOf(c.Nodes), p.Name) })
	return c.Cluster, true
}

func slowCrash(from impl.Cluster, name string) (impl.Cluster, int) {
	c := slowOf(from)
	s := c.store(name)
	had := len(s.Items)
	s.Items = nil
	return c.Cluster, had
}

func slowTick(from impl.Cluster, by int) impl.Cluster {
	c := slowOf(from)
	c.Now = min(impl.MaxNow, c.Now+by)
	c.dropOld()
	return c.Cluster
}

func slowPlacesOf(c impl.Cluster, key string) []string {
	var out []string
	for _, p := range c.Places {
		for _, it := range p.Store.Items {
			if it.Key == key && (it.Until == 0 || it.Until > c.Now) {
				out = append(out, p.Name)
			}
		}
	}
	return out
}
