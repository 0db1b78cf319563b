package tests

import (
	"fmt"
	"reflect"
	"slices"
	"strconv"
	"strings"
	"testing"

	"loop.example/g00170/impl"
)

// mostLost and mostCopied are the document's own numbers.
const mostLost = 1000000
const mostCopied = 100

func samePlace(a, b impl.Place) bool {
	return a.Name == b.Name && sameStore(a.Store, b.Store)
}

func sameCluster(a, b impl.Cluster) bool {
	return a.Now == b.Now && a.Next == b.Next && a.Limit == b.Limit && a.Lost == b.Lost &&
		slices.Equal(a.Nodes, b.Nodes) && slices.Equal(a.Coming, b.Coming) && slices.EqualFunc(a.Places, b.Places, samePlace)
}

// wantCluster also says that the cluster is good.
func wantCluster(t *testing.T, what string, got, want impl.Cluster) {
	t.Helper()
	if !sameCluster(got, want) {
		t.Errorf("%s: the cluster is %+v; want %+v", what, got, want)
	}
	wantGoodCluster(t, what, got)
}

// wantGoodCluster asks the program and the second telling.
func wantGoodCluster(t *testing.T, what string, c impl.Cluster) {
	t.Helper()
	if !impl.GoodCluster(c) || !slowGoodCluster(c) {
		t.Errorf("%s: the cluster %+v is not good", what, c)
	}
}

func isZeroCluster(c impl.Cluster) bool {
	return reflect.DeepEqual(c, impl.Cluster{})
}

// wantNoCluster asks all functions of a cluster that must not be taken.
func wantNoCluster(t *testing.T, what string, c impl.Cluster) {
	t.Helper()
	if impl.GoodCluster(c) {
		t.Errorf("%s: GoodCluster says true", what)
	}
	for _, cmd := range []impl.Cmd{{Name: "version"}, {Name: "flush_all"}, askFor([]string{"k1"}, true), setOf(val("k1", 1))} {
		wantNoDo(t, what, c, cmd)
	}
	wantNoBegin(t, what, c, eightNodes(1))
	wantNoCopy(t, what, c, 1)
	wantNoEnd(t, what, c)
	wantNoTick(t, what, c, 0)
	for _, p := range c.Places {
		wantNoCrash(t, what, c, p.Name)
	}
	wantNoPlaces(t, what, c, "k1")
}

func wantNoDo(t *testing.T, what string, c impl.Cluster, cmd impl.Cmd) {
	t.Helper()
	if then, answer, ok := impl.DoCluster(c, cmd); !isZeroCluster(then) || answer != "" || ok {
		t.Errorf("%s: DoCluster of %+v = %+v, %q, %v", what, cmd, then, answer, ok)
	}
}

func wantNoBegin(t *testing.T, what string, c impl.Cluster, nodes []impl.Node) {
	t.Helper()
	if then, ok := impl.BeginMove(c, nodes); !isZeroCluster(then) || ok {
		t.Errorf("%s: BeginMove to %v = %+v, %v", what, nodes, then, ok)
	}
}

func wantNoCopy(t *testing.T, what string, c impl.Cluster, many int) {
	t.Helper()
	if then, moved, ok := impl.CopySome(c, many); !isZeroCluster(then) || moved != 0 || ok {
		t.Errorf("%s: CopySome of %d = %+v, %d, %v", what, many, then, moved, ok)
	}
}

func wantNoEnd(t *testing.T, what string, c impl.Cluster) {
	t.Helper()
	if then, ok := impl.EndMove(c); !isZeroCluster(then) || ok {
		t.Errorf("%s: EndMove = %+v, %v", what, then, ok)
	}
}

func wantNoTick(t *testing.T, what string, c impl.Cluster, by int) {
	t.Helper()
	if then, ok := impl.TickCluster(c, by); !isZeroCluster(then) || ok {
		t.Errorf("%s: TickCluster by %d = %+v, %v", what, by, then, ok)
	}
}

func wantNoCrash(t *testing.T, what string, c impl.Cluster, name string) {
	t.Helper()
	if then, had, ok := impl.CrashNode(c, name); !isZeroCluster(then) || had != 0 || ok {
		t.Errorf("%s: CrashNode of %q = %+v, %d, %v", what, name, then, had, ok)
	}
}

func wantNoPlaces(t *testing.T, what string, c impl.Cluster, key string) {
	t.Helper()
	if names, ok := impl.PlacesOf(c, key); len(names) != 0 || ok {
		t.Errorf("%s: PlacesOf %q = %q, %v", what, key, names, ok)
	}
}

func wantPlaces(t *testing.T, c impl.Cluster, key string, want ...string) {
	t.Helper()
	if names, ok := impl.PlacesOf(c, key); !slices.Equal(names, want) || !ok {
		t.Errorf("PlacesOf %q = %q, %v; want %q, true", key, names, ok, want)
	}
}

// The next ones do what must be taken, and say that the cluster is good then.

func newCluster(t *testing.T, nodes []impl.Node, limit int) impl.Cluster {
	t.Helper()
	c, ok := impl.NewCluster(nodes, limit)
	return taken(t, "NewCluster", c, ok)
}

func taken(t *testing.T, what string, c impl.Cluster, ok bool) impl.Cluster {
	t.Helper()
	if !ok {
		t.Fatalf("%s says false", what)
	}
	wantGoodCluster(t, what, c)
	return c
}

func doneIn(t *testing.T, c impl.Cluster, cmd impl.Cmd) (impl.Cluster, string) {
	t.Helper()
	then, answer, ok := impl.DoCluster(c, cmd)
	return taken(t, cmd.Name, then, ok), answer
}

func begun(t *testing.T, c impl.Cluster, nodes []impl.Node) impl.Cluster {
	t.Helper()
	then, ok := impl.BeginMove(c, nodes)
	return taken(t, "BeginMove", then, ok)
}

func copied(t *testing.T, c impl.Cluster, many int) (impl.Cluster, int) {
	t.Helper()
	then, moved, ok := impl.CopySome(c, many)
	return taken(t, "CopySome", then, ok), moved
}

func ended(t *testing.T, c impl.Cluster) impl.Cluster {
	t.Helper()
	then, ok := impl.EndMove(c)
	return taken(t, "EndMove", then, ok)
}

func ticked(t *testing.T, c impl.Cluster, by int) impl.Cluster {
	t.Helper()
	then, ok := impl.TickCluster(c, by)
	return taken(t, "TickCluster", then, ok)
}

func crashed(t *testing.T, c impl.Cluster, name string) (impl.Cluster, int) {
	t.Helper()
	then, had, ok := impl.CrashNode(c, name)
	return taken(t, "CrashNode", then, ok), had
}

// wantDoneIn holds a command's answer against what is wanted.
func wantDoneIn(t *testing.T, c impl.Cluster, cmd impl.Cmd, want string) impl.Cluster {
	t.Helper()
	then, answer := doneIn(t, c, cmd)
	if answer != want {
		t.Errorf("%s %q answers %q; want %q", cmd.Name, cmd.Keys, answer, want)
	}
	return then
}

// oneNode is a node of the weight 1 under that name.
func oneNode(name string) []impl.Node {
	return []impl.Node{{Name: name, Weight: 1}}
}

// placed is a cluster by hand: each item stands at the place that is named beside it.
func placed(nodes, coming []impl.Node, limit, next int, items map[string][]impl.Item) impl.Cluster {
	c := impl.Cluster{Next: next, Limit: limit, Nodes: nodes, Coming: coming}
	for _, name := range slices.Compact(slices.Sorted(slices.Values(namesOf(slices.Concat(nodes, coming))))) {
		c.Places = append(c.Places, impl.Place{Name: name, Store: impl.Store{Limit: limit, Next: next, Items: items[name]}})
	}
	return c
}

// keysGoing are so many keys that belong to one place in some nodes and to another one in others.
func keysGoing(from, to []impl.Node, a, b string, many int) []string {
	var out []string
	for i := 1; len(out) < many; i++ {
		k := "k" + strconv.Itoa(i)
		if ownerMemo(from, k) == a && ownerMemo(to, k) == b {
			out = append(out, k)
		}
	}
	return out
}

// knownOwners remembers what slowOwner told, since long rows ask for few keys.
var knownOwners = map[string]string{}

func ownerMemo(l []impl.Node, key string) string {
	asked := fmt.Sprint(l) + key
	if _, known := knownOwners[asked]; !known {
		knownOwners[asked] = slowOwner(l, key)
	}
	return knownOwners[asked]
}

func storeAt(t *testing.T, c impl.Cluster, name string) impl.Store {
	t.Helper()
	at := slices.IndexFunc(c.Places, func(p impl.Place) bool { return p.Name == name })
	if at < 0 {
		t.Fatalf("%q is no place of %+v", name, c)
	}
	return c.Places[at].Store
}

func wantItemsAt(t *testing.T, what string, c impl.Cluster, name string, want ...impl.Item) {
	t.Helper()
	if items := storeAt(t, c, name).Items; !slices.Equal(items, want) {
		t.Errorf("%s: at %s stand %+v; want %+v", what, name, items, want)
	}
}

// itemsIn are all items of a cluster, place by place.
func itemsIn(c impl.Cluster) []impl.Item {
	var out []impl.Item
	for _, p := range c.Places {
		out = append(out, p.Store.Items...)
	}
	return out
}

func copyOfNodes(l []impl.Node) []impl.Node {
	out := slices.Clone(l)
	for i := range out {
		out[i].Name = strings.Clone(out[i].Name)
	}
	return out
}

func copyOfCluster(c impl.Cluster) impl.Cluster {
	c.Nodes, c.Coming, c.Places = copyOfNodes(c.Nodes), copyOfNodes(c.Coming), slices.Clone(c.Places)
	for i, p := range c.Places {
		c.Places[i] = impl.Place{Name: strings.Clone(p.Name), Store: copyOfStore(p.Store)}
	}
	return c
}

// clusterTexts are all texts of a cluster, to be asked whose memory they are in.
func clusterTexts(c impl.Cluster) []string {
	out := slices.Concat(namesOf(c.Nodes), namesOf(c.Coming))
	for _, p := range c.Places {
		out = append(append(out, p.Name), storeTexts(p.Store)...)
	}
	return out
}
