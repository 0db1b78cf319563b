package tests

import (
	"fmt"
	"math/big"
	"regexp"
	"slices"

	"loop.example/g00170/impl"
)

// slowStore is the chapter told a second time: plain lists, gone through from the front.
type slowStore struct {
	impl.Store
	lost int
}

func (s *slowStore) at(k string) int {
	return slices.IndexFunc(s.Items, func(it impl.Item) bool { return it.Key == k })
}

func (s *slowStore) dropOld(now int) {
	s.Items = slices.DeleteFunc(s.Items, func(it impl.Item) bool { return it.Until > 0 && now >= it.Until })
}

func (s *slowStore) putLast(it impl.Item) {
	if i := s.at(it.Key); i >= 0 {
		s.Items = slices.Delete(s.Items, i, i+1)
	}
	s.Items = append(s.Items, it)
}

func (s *slowStore) keep(it impl.Item, answer string) string {
	if len(it.Data) > impl.MaxValue {
		return "SERVER_ERROR large\r\n"
	}
	if chargeByHand([]impl.Item{it}) > s.Limit || s.Next >= mostTokens {
		return "SERVER_ERROR full\r\n"
	}
	it.Token = s.Next
	s.Next++
	s.putLast(it)
	for chargeByHand(s.Items) > s.Limit || len(s.Items) > impl.MaxItems {
		s.Items = s.Items[1:]
		s.lost++
	}
	return answer
}

func (s *slowStore) do(now int, c impl.Cmd) string {
	if c.Name == "get" || c.Name == "gets" {
		return s.get(c)
	}
	if len(c.Keys) == 0 {
		if c.Name == "flush_all" {
			s.Items = nil
		}
		return map[string]string{"flush_all": "OK\r\n", "version": "VERSION 1\r\n", "quit": ""}[c.Name]
	}
	i := s.at(c.Keys[0])
	if i < 0 {
		return s.doMissing(now, c)
	}
	it := s.Items[i]
	switch c.Name {
	case "set", "replace":
		return s.keep(slowItem(now, c), "STORED\r\n")
	case "add":
		return "NOT_STORED\r\n"
	case "append":
		it.Data = it.Data + c.Data
		return s.keep(it, "STORED\r\n")
	case "prepend":
		it.Data = c.Data + it.Data
		return s.keep(it, "STORED\r\n")
	case "cas":
		if it.Token == c.Number {
			return s.keep(slowItem(now, c), "STORED\r\n")
		}
		return "EXISTS\r\n"
	case "incr", "decr":
		text, ok := slowCount(it.Data, c.Number, c.Name == "decr")
		if !ok {
			return "CLIENT_ERROR bad\r\n"
		}
		it.Data = text
		return s.keep(it, text+"\r\n")
	case "touch":
		it.Until = slowItem(now, c).Until
		s.putLast(it)
		return "TOUCHED\r\n"
	}
	s.Items = slices.Delete(s.Items, i, i+1)
	return "DELETED\r\n"
}

func (s *slowStore) get(c impl.Cmd) string {
	text := ""
	for _, k := range c.Keys {
		i := s.at(k)
		if i < 0 {
			continue
		}
		it := s.Items[i]
		if c.Name == "gets" {
			text += fmt.Sprintf("VALUE %s %d %d %d\r\n%s\r\n", k, it.Flags, len(it.Data), it.Token, it.Data)
		} else {
			text += fmt.Sprintf("VALUE %s %d %d\r\n%s\r\n", k, it.Flags, len(it.Data), it.Data)
		}
		s.putLast(it)
	}
	return text + "END\r\n"
}

func (s *slowStore) doMissing(now int, c impl.Cmd) string {
	switch c.Name {
	case "set", "add":
		return s.keep(slowItem(now, c), "STORED\r\n")
	case "replace", "append", "prepend":
		return "NOT_STORED\r\n"
	}
	return "NOT_FOUND\r\n"
}

func slowItem(now int, c impl.Cmd) impl.Item {
	it := impl.Item{Key: c.Keys[0], Flags: c.Flags, Data: c.Data}
	if c.Expire > 0 {
		it.Until = now + c.Expire
	}
	return it
}

var countForm = regexp.MustCompile(`\A(0|[1-9][0-9]{0,17})\z`)

func slowCount(data string, by int, down bool) (string, bool) {
	if !countForm.MatchString(data) || by < 0 || by > impl.MaxNumber {
		return "", false
	}
	n, _ := new(big.Int).SetString(data, 10)
	if down {
		n.Sub(n, big.NewInt(int64(by)))
	} else {
		n.Add(n, big.NewInt(int64(by)))
	}
	if n.Sign() < 0 {
		return "0", true
	}
	return n.String(), countForm.MatchString(n.String())
}

// slowDo is DoStore of the second telling, of what is good.
func slowDo(s impl.Store, now int, c impl.Cmd) (impl.Store, string, int) {
	slow := &slowStore{Store: copyOfStore(s)}
	slow.dropOld(now)
	answer := slow.do(now, c)
	if c.Quiet {
		answer = ""
	}
	return slow.Store, answer, slow.lost
}
