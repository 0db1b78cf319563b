package tests

import (
	"slices"
	"strings"
	"testing"

	"loop.example/g00170/impl"
)

// The one store is that of chapter 2 with MaxLimit: DoStore answers the same to the same commands.
func TestModelIsOneStore(t *testing.T) {
	n := &numbers{}
	for range 60 {
		s := impl.Store{Limit: impl.MaxLimit, Next: 1}
		var l []impl.Event
		now, lost, want := 0, 0, ""
		for range impl.MaxEvents / 2 {
			by := pick(n, shortTicks)
			text, some := "", 0
			now += by
			for range n.below(6) {
				c := wildCmd(n, 90, s)
				if c.Name == "quit" {
					continue
				}
				line, _ := impl.CmdText(c)
				then, answer, gone := done(t, s, now, c)
				s, text, want, some = then, text+line, want+answer, some+gone
			}
			lost += some
			l = append(l, tickEvent(by), bytesEvent(text))
		}
		wantModel(t, "drawn commands", want, lost, l...)
	}
}

// More than MaxItems are forgotten for room, the one used longest ago first; what is old or deleted is not counted.
func TestModelForgets(t *testing.T) {
	var keys []string
	for i := range 99 {
		keys = append(keys, twoDigits(i))
	}
	for _, many := range []int{1, impl.MaxItems - 1, impl.MaxItems, impl.MaxItems + 1, impl.MaxItems + 5, 99} {
		text, stored := storeAll(keys[:many]...)
		gone := max(0, many-impl.MaxItems)
		wantModel(t, "stored", stored, gone, bytesEvent(text))
		first := min(gone+2, many)
		ask := "get none " + strings.Join(keys[max(0, gone-3):first], " ") + "\r\n"
		wantModel(t, "stored and told", stored+toldAll(keys[gone:first]...), gone, bytesEvent(text), bytesEvent(ask))
	}
	text, stored := storeAll(keys[:impl.MaxItems]...)
	wantModel(t, "used last", stored+toldAll("00")+"STORED\r\n"+"END\r\n"+toldAll("00"), 1, bytesEvent(text+lines("get 00", "set new 0 0 1", "x", "get 01", "get 00")))
	wantModel(t, "stored anew", stored+stored, 0, bytesEvent(text+text))
	wantModel(t, "deleted", stored+"DELETED\r\n"+"STORED\r\n", 0, bytesEvent(text+lines("delete 07", "set new 0 0 1", "x")))
	wantModel(t, "flushed", stored+"OK\r\n"+stored, 0, bytesEvent(text+"flush_all\r\n"+text))
	old := strings.ReplaceAll(text, " 0 0 ", " 0 3 ")
	wantModel(t, "old", stored+stored, 0, bytesEvent(old), tickEvent(3), bytesEvent(text))
	wantModel(t, "not old yet", stored+"STORED\r\n", 1, bytesEvent(old), tickEvent(2), bytesEvent(lines("set new 0 0 1", "x")))
	wantModel(t, "quiet", "", 1, bytesEvent(strings.ReplaceAll(text, " 2\r\n", " 2 noreply\r\n")+lines("set new 0 0 1 noreply", "x")))
}

// The greatest items are of no more charge than there is room for: only how many they are makes the one store forget.
func TestModelOfTheGreatestItems(t *testing.T) {
	text, stored := "", ""
	for i := range impl.MaxItems {
		text += lines("set "+key(impl.MaxKey-2)+twoDigits(i)+" 0 0 100", key(impl.MaxValue))
		stored += "STORED\r\n"
	}
	wantModel(t, "sixty of the greatest", stored, 0, bytesEvent(text))
	wantModel(t, "one more", stored+"STORED\r\n", 1, bytesEvent(text+lines("set k 0 0 0", "")))
}

// All other events do nothing to the one store, wherever they stand.
func TestOtherEventsDoNothingToTheModel(t *testing.T) {
	n := &numbers{}
	others := []impl.Event{
		{}, {Kind: 7, Bytes: "flush_all\r\n", N: 5}, {Kind: -1, N: 3}, beginEvent(twoNodes()), beginEvent(nil), copyEvent(5), copyEvent(-1), endEvent(), crashEvent("a"), crashEvent(""),
		{Kind: impl.EventBegin, Bytes: "quit\r\n", N: 100, Nodes: laterNodes()}, tickEvent(-1), tickEvent(impl.MaxNow + 1),
	}
	for range 200 {
		text := wildStream(n, 40)
		out, lost := slowModel([]impl.Event{bytesEvent(text)})
		var at []int
		var l []impl.Event
		for range n.below(30) {
			at, l = append(at, n.below(len(text)+1)), append(l, pick(n, others))
		}
		slices.Sort(at)
		wantModel(t, "others between", out, lost, cut(text, at, l)...)
	}
}
