package tests

import (
	"fmt"
	"regexp"
	"slices"
	"strconv"
	"strings"

	"loop.example/g00170/impl"
)

// The tellings here are a second one of chapter 6, as plain as can be, that the program is held against.

func slowGoodAsked(l []impl.Node, keys []string) bool {
	good := slowGoodNodes(l) && len(keys) <= mostAsked
	for _, k := range keys {
		good = good && keyOfItem.MatchString(k) && !strings.HasSuffix(k, "\n")
	}
	return good
}

var keyOfItem = regexp.MustCompile(`^[!-~]{1,30}$`)

func slowSplit(l []impl.Node, keys []string) ([]impl.Part, bool) {
	if !slowGoodAsked(l, keys) {
		return nil, false
	}
	var parts []impl.Part
	at := map[string]int{}
	for _, k := range keys {
		node := slowOwner(l, k)
		if _, there := at[node]; !there {
			at[node] = len(parts)
			parts = append(parts, impl.Part{Node: node})
		}
		one := &parts[at[node]]
		one.Keys = append(one.Keys, k)
	}
	return parts, true
}

func slowValues(items []impl.Item, token bool) (string, bool) {
	text := ""
	good := len(items) <= mostAsked
	for _, it := range items {
		good = good && keyOfItem.MatchString(it.Key) && !strings.HasSuffix(it.Key, "\n")
		good = good && 0 <= it.Flags && it.Flags <= 1000000000 && len(it.Data) <= 100
		text += fmt.Sprintf("VALUE %s %d %d", it.Key, it.Flags, len(it.Data))
		if token {
			good = good && 1 <= it.Token && it.Token <= 1000000000
			text += fmt.Sprintf(" %d", it.Token)
		}
		text += fmt.Sprintf("\r\n%s\r\n", it.Data)
	}
	if !good {
		return "", false
	}
	return text + "END\r\n", true
}

var lineOfItem = map[bool]*regexp.Regexp{
	false: regexp.MustCompile(`^VALUE ([!-~]+) ([0-9]+) ([0-9]+)()\r\n`),
	true:  regexp.MustCompile(`^VALUE ([!-~]+) ([0-9]+) ([0-9]+) ([0-9]+)\r\n`),
}

// slowItems reads whatever looks like a text of items: the items are those, if
// their own text is this one to the byte.
func slowItems(s string, token bool) ([]impl.Item, bool) {
	var items []impl.Item
	rest := s
	for {
		m := lineOfItem[token].FindStringSubmatch(rest)
		if m == nil {
			break
		}
		rest = rest[len(m[0]):]
		flags, _ := strconv.Atoi(m[2])
		size, _ := strconv.Atoi(m[3])
		number, _ := strconv.Atoi(m[4])
		if size > len(rest) {
			break
		}
		items = append(items, impl.Item{Key: m[1], Flags: flags, Data: rest[:size], Token: number})
		rest = strings.TrimPrefix(rest[size:], "\r\n")
	}
	if text, ok := slowValues(items, token); !ok || text != s {
		return nil, false
	}
	return items, true
}

// areSome says whether the items are some of the keys in their order: each key may be one of them or not, and how many are met so far is kept for all ways at once.
func areSome(items []impl.Item, keys []string) bool {
	met := make([]bool, len(items)+1)
	met[0] = true
	for _, k := range keys {
		for i := len(items) - 1; i >= 0; i-- {
			if met[i] && items[i].Key == k {
				met[i+1] = true
			}
		}
	}
	return met[len(items)]
}

// slowMerge goes through the keys one by one, each node's answer beside it.
func slowMerge(l []impl.Node, keys, answers []string, token bool) (string, bool) {
	parts, ok := slowSplit(l, keys)
	if !ok || len(parts) != len(answers) {
		return "", false
	}
	left := map[string][]impl.Item{}
	for i, p := range parts {
		items, ok := slowItems(answers[i], token)
		if !ok || !areSome(items, p.Keys) {
			return "", false
		}
		left[p.Node] = items
	}
	var out []impl.Item
	for _, k := range keys {
		node := slowOwner(l, k)
		if items := left[node]; len(items) > 0 && items[0].Key == k {
			out = append(out, items[0])
			left[node] = slices.Clone(items[1:])
		}
	}
	return slowValues(out, token)
}
