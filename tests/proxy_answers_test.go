package tests

import (
	"slices"
	"strings"
	"testing"

	"loop.example/g00170/impl"
)

// lineAnswers are all answers of one line that chapter 2 knows, and every FaultText.
func lineAnswers() []string {
	out := []string{"STORED\r\n", "NOT_STORED\r\n", "EXISTS\r\n", "NOT_FOUND\r\n", "TOUCHED\r\n", "DELETED\r\n", "OK\r\n", "VERSION 1\r\n", "SERVER_ERROR full\r\n", "SERVER_ERROR large\r\n", "CLIENT_ERROR bad\r\n", "END\r\n"}
	for _, code := range []int{impl.WireError, impl.WireClient, impl.WireLarge} {
		out = append(out, impl.FaultText(code))
	}
	return append(out, "0\r\n", "1\r\n", "9\r\n", "10\r\n", "1000000000\r\n", "100000000000000000\r\n", "999999999999999999\r\n")
}

// valueAnswers are answers to get and to gets, many of them with Data that looks like answers.
func valueAnswers(t *testing.T) []string {
	t.Helper()
	var out []string
	for _, items := range tellableLists() {
		for _, token := range withAndWithout {
			if len(items) > 0 && len(items) <= impl.MaxKeys {
				out = append(out, textOf(t, token, items...))
			}
		}
	}
	ten := textOf(t, true, slices.Repeat([]impl.Item{{Key: key(impl.MaxKey), Flags: impl.MaxNumber, Data: key(impl.MaxValue), Token: mostTokens}}, impl.MaxKeys)...)
	return append(out, ten,
		"VALUE k 0 0\r\n\r\nEND\r\n",
		"VALUE k 0 5\r\nEND\r\n\r\nEND\r\n",
		"VALUE k 0 5 1\r\nEND\r\n\r\nEND\r\n",
		"VALUE k 0 2\r\n\r\n\r\nEND\r\n",
		"VALUE k 0 7\r\n\r\nEND\r\n\r\nVALUE k 0 3\r\nEND\r\nEND\r\n",
		"VALUE VALUE 0 21\r\nVALUE k 0 1\r\nx\r\nEND\r\n\r\nEND\r\n",
	)
}

func TestAnswersAlone(t *testing.T) {
	wantAnswers(t, "")
	for _, a := range append(lineAnswers(), valueAnswers(t)...) {
		wantAnswers(t, a, a)
		wantAnswers(t, a+a, a, a)
		wantNoAnswers(t, "twice as long a line end", a+"\r\n")
		wantNoAnswers(t, "a blank ahead", " "+a)
		wantNoAnswers(t, "a line end ahead", "\r\n"+a)
		wantNoAnswers(t, "no 13", strings.ReplaceAll(a, "\r\n", "\n"))
		wantNoAnswers(t, "in small letters", strings.ToLower(a)+"x\r\n")
		wantNoAnswers(t, "a blank at the end", strings.TrimSuffix(a, "\r\n")+" \r\n")
	}
}

func TestAnswersOneBehindTheOther(t *testing.T) {
	all := append(lineAnswers(), valueAnswers(t)...)
	wantAnswers(t, strings.Join(all, ""), all...)
	n := &numbers{}
	for range 300 {
		var some []string
		for range n.below(12) {
			some = append(some, pick(n, all))
		}
		wantAnswers(t, strings.Join(some, ""), some...)
		wantNoAnswers(t, "a wrong one behind", strings.Join(some, "")+"FINE\r\n")
		wantNoAnswers(t, "a wrong one ahead", "FINE\r\n"+strings.Join(some, ""))
	}
	for _, a := range all {
		for _, b := range all {
			wantAnswers(t, a+b, a, b)
		}
	}
}

// Cut at any byte it is whole only between two answers.
func TestAnswersThatAreCut(t *testing.T) {
	for _, a := range append(lineAnswers(), valueAnswers(t)...) {
		for at := 1; at < len(a); at++ {
			wantNoAnswers(t, "cut", a[:at])
			wantNoAnswers(t, "cut behind another", "STORED\r\n"+a[:at])
		}
	}
	parts := []string{"STORED\r\n", "VALUE a 0 5\r\nEND\r\n\r\nEND\r\n", "END\r\n", "12\r\n", "VALUE b 1 1 7\r\nx\r\nVALUE c 2 0 8\r\n\r\nEND\r\n", "ERROR\r\n"}
	text := strings.Join(parts, "")
	whole, from := 0, 0
	for at := range len(text) + 1 {
		if at == from {
			wantAnswers(t, text[:at], parts[:whole]...)
			if whole < len(parts) {
				from, whole = from+len(parts[whole]), whole+1
			}
			continue
		}
		wantNoAnswers(t, "cut", text[:at])
	}
}

func TestWhatIsNoAnswer(t *testing.T) {
	for _, line := range []string{
		"", " ", "FINE", "stored", "STORE", "STOREDX", "XSTORED", "STORED ", "STORED STORED", "NOT STORED", "NOTSTORED", "Ok", "EXIST", "FOUND", "TOUCH", "DELETE", "END ", "ENDEND", "END END",
		"VERSION", "VERSION ", "VERSION 0", "VERSION 2", "VERSION 01", "VERSION 1 ", "VERSION 10", "VERSION  1", "VERSION one",
		"ERROR bad", "ERRORS", "CLIENT_ERROR", "CLIENT_ERROR ", "CLIENT_ERROR good", "CLIENT_ERROR large", "CLIENT_ERROR full", "SERVER_ERROR", "SERVER_ERROR bad", "SERVER_ERROR small", "SERVER_ERROR fuller",
		"00", "01", "007", "-1", "+1", "1 ", " 1", "1.0", "1e3", "0x1", "1_0", "1 2", "1000000000000000000", "9999999999999999999", "99999999999999999999999999", "\u0661",
		"STORED\n", "STORED\r", "\nSTORED", "\x00", "\xff", "get k", "set k 0 0 1", "quit",
	} {
		wantNoAnswers(t, "a line", line+"\r\n")
		wantNoAnswers(t, "a line behind another", "OK\r\n"+line+"\r\n")
		wantNoAnswers(t, "a line ahead of another", line+"\r\nOK\r\n")
	}
	for _, s := range []string{"\r", "\n", "\n\r", "STORED", "STORED\n", "STORED\r", "STORED\n\r", "STORED\r\r\n", "END", "1", "1\n", "OK\r\n\r\n", "OK\r\n\n", "OK\nOK\r\n"} {
		wantNoAnswers(t, "a line end", s)
	}
}

func TestValuesThatAreNoAnswer(t *testing.T) {
	for _, line := range []string{
		"VALUE", "VALUE ", "VALUE k", "VALUE k 0", "VALUE k 0 ", "VALUE k 0 1 ", "VALUE k 0 1 2 3", "VALUE  k 0 1", "VALUE k  0 1", "VALUE k 0  1", " VALUE k 0 1", "VALUES k 0 1", "value k 0 1", "VALUE k,0,1",
		"VALUE " + key(impl.MaxKey+1) + " 0 1", "VALUE \x7f 0 1", "VALUE \t 0 1", "VALUE k\x80 0 1",
		"VALUE k 00 1", "VALUE k 01 1", "VALUE k -1 1", "VALUE k +1 1", "VALUE k x 1", "VALUE k 1000000001 1", "VALUE k 99999999999999999999 1",
		"VALUE k 0 01", "VALUE k 0 +1", "VALUE k 0 x", "VALUE k 0 -1", "VALUE k 0 001", "VALUE k 0 0", "VALUE k 0 2", "VALUE k 0 3", "VALUE k 0 4", "VALUE k 0 8", "VALUE k 0 9", "VALUE k 0 100", "VALUE k 0 18446744073709551617",
		"VALUE k 0 1 0", "VALUE k 0 1 00", "VALUE k 0 1 01", "VALUE k 0 1 -1", "VALUE k 0 1 x", "VALUE k 0 1 1000000001", "VALUE k 0 1 noreply",
	} {
		wantNoAnswers(t, "a value", line+"\r\nx\r\nEND\r\n")
		wantNoAnswers(t, "a value behind another", "VALUE a 0 1\r\nx\r\n"+line+"\r\nx\r\nEND\r\n")
		wantNoAnswers(t, "a value behind another with a token", "VALUE a 0 1 2\r\nx\r\n"+line+"\r\nx\r\nEND\r\n")
	}
	for what, s := range map[string]string{
		"too long Data":               "VALUE k 0 101\r\n" + key(101) + "\r\nEND\r\n",
		"Data and one byte more":      "VALUE k 0 1\r\nxy\r\nEND\r\n",
		"no line end behind Data":     "VALUE k 0 1\r\nxEND\r\n",
		"a 10 alone behind Data":      "VALUE k 0 1\r\nx\nEND\r\n",
		"a 10 alone behind the line":  "VALUE k 0 1\nx\r\nEND\r\n",
		"no end":                      "VALUE k 0 1\r\nx\r\n",
		"another word for the end":    "VALUE k 0 1\r\nx\r\nSTORED\r\n",
		"a number for the end":        "VALUE k 0 1\r\nx\r\n12\r\n",
		"an end with more":            "VALUE k 0 1\r\nx\r\nEND 1\r\n",
		"an end in small letters":     "VALUE k 0 1\r\nx\r\nend\r\n",
		"with and without a token":    "VALUE k 0 1 5\r\nx\r\nVALUE l 0 1\r\nx\r\nEND\r\n",
		"without and with a token":    "VALUE k 0 1\r\nx\r\nVALUE l 0 1 5\r\nx\r\nEND\r\n",
		"more than a get can ask for": strings.Repeat("VALUE k 0 1\r\nx\r\n", impl.MaxKeys+1) + "END\r\n",
		"more than a gets asks for":   strings.Repeat("VALUE k 0 1 5\r\nx\r\n", impl.MaxKeys+1) + "END\r\n",
	} {
		wantNoAnswers(t, what, s)
	}
}

// Every answer that one store tells to drawn commands is read as it was told.
func TestAnswersOfAStore(t *testing.T) {
	n := &numbers{}
	for range 40 {
		s := impl.Store{Limit: pick(n, []int{0, 12, 300, impl.MaxLimit}), Next: 1}
		var told []string
		for range 100 {
			then, answer, _ := done(t, s, 0, wildCmd(n, 12, s))
			s = then
			if answer != "" {
				told = append(told, answer)
			}
		}
		wantAnswers(t, strings.Join(told, ""), told...)
	}
}

// spoiltText is a text in which a byte was put, taken or changed, or none.
func spoiltText(n *numbers, s string) string {
	at := n.below(len(s) + 1)
	b := pick(n, []string{"0", "1", "9", " ", "\r", "\n", "\r\n", "E", "END\r\n", "VALUE ", "x", "\x00"})
	switch {
	case n.below(4) == 0 || at == len(s):
		return s[:at] + b + s[at:]
	case n.below(3) == 0:
		return s[:at] + s[at+1:]
	case n.below(3) == 0:
		return s[:at]
	}
	return s[:at] + b + s[at+1:]
}

// AnswersIn at any text, held against the second telling.
func TestAnswersInAgainstShapes(t *testing.T) {
	n := &numbers{}
	all := append(lineAnswers(), valueAnswers(t)...)
	whole, not := 0, 0
	for range 40000 {
		text := ""
		for range n.below(4) {
			text += pick(n, all)
		}
		for range n.below(3) {
			text = spoiltText(n, text)
		}
		want, ok := slowAnswers(text)
		if ok {
			whole++
			wantAnswers(t, text, want...)
		} else {
			not++
			wantNoAnswers(t, "a spoilt text", text)
		}
		if t.Failed() {
			return
		}
	}
	if whole < 5000 || not < 5000 {
		t.Error(whole, not)
	}
}
