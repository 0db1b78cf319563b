package tests

import (
	"slices"
	"strconv"
	"strings"
	"testing"

	"loop.example/g00170/impl"
)

// ofLength is a script of that many bytes with a version as its last line.
func ofLength(many int) string {
	const last = "> version\n"
	text := strings.Repeat("0123456789012345678901234567890123456789012345678\n", (many-len(last)-1)/50)
	return text + strings.Repeat("x", many-len(text)-len(last)-1) + "\n" + last
}

func TestMostBytesOfAScript(t *testing.T) {
	for _, many := range []int{100, 1000, impl.MaxScript - 1, impl.MaxScript} {
		text := ofLength(many)
		if len(text) != many {
			t.Fatal(len(text))
		}
		wantCache(t, "a long script", text, strings.Repeat("what\n", strings.Count(text, "\n")-1)+"VERSION 1$\n\n")
		wantEvents(t, text, bytesEvent("version\r\n"))
	}
	for _, many := range []int{impl.MaxScript + 1, impl.MaxScript + 2, 2 * impl.MaxScript, 100000} {
		wantNoScript(t, "too many bytes", strings.Repeat("x", many-1)+"\n")
	}
	wantNoScript(t, "too many bytes", ofLength(impl.MaxScript+1))
	wantCache(t, "one line of all bytes", strings.Repeat("x", impl.MaxScript-1)+"\n", "what\n")
	wantNoScript(t, "all bytes and no end", strings.Repeat("x", impl.MaxScript))
}

func TestMostLinesOfAScript(t *testing.T) {
	for line, told := range map[string]string{"": "what", "fly": "what", "ring": "a:1", "lost": "lost 0", "where k": "at", "> version": "VERSION 1$\n", "tick 1": "ok", "end": "no"} {
		for _, many := range []int{1, 2, impl.MaxLines - 1, impl.MaxLines} {
			wantCache(t, "lines", strings.Repeat(line+"\n", many), strings.Repeat(told+"\n", many))
		}
		for _, many := range []int{impl.MaxLines + 1, impl.MaxLines + 2, 2 * impl.MaxLines} {
			wantNoScript(t, "too many lines", strings.Repeat(line+"\n", many))
		}
		wantNoScript(t, "a line more without an end", strings.Repeat(line+"\n", impl.MaxLines)+"x")
	}
	wantNoScript(t, "only ends", strings.Repeat("\n", impl.MaxScript))
}

func TestWhatIsNoScript(t *testing.T) {
	wantCache(t, "the empty text", "", "")
	wantEvents(t, "")
	for _, text := range []string{"x", "ring", "> version", "> version\r", "ring\nring", "ring\n ", "\nx", "\n\n\r", "ring\r", "tick 1\n\ntick 2", "\x00", " "} {
		wantNoScript(t, "the last line has no byte 10", text)
		wantCache(t, "with its byte 10", text+"\n", impl.RunCache(text+"\n"))
		if impl.RunCache(text+"\n") == "" {
			t.Errorf("with a byte 10 behind it %q is a script", text)
		}
	}
}

// Each kind of line, right, in one script.
func TestEachKindOfLine(t *testing.T) {
	wantTold(t, "each kind",
		lineTold{"ring", "a:1"}, lineTold{"lost", "lost 0"}, lineTold{"where k2", "at"},
		lineTold{"> set k2 7 9 3", ""}, lineTold{"> abc", "STORED$\n"}, lineTold{"where k2", "at a"},
		lineTold{"begin a:1 b:2", "ok"}, lineTold{"ring", "a:1 > a:1 b:2"}, lineTold{"where k2", "at a"}, lineTold{"end", "no"},
		lineTold{"copy 1", "ok"}, lineTold{"where k2", "at b"}, lineTold{"end", "ok"}, lineTold{"ring", "a:1 b:2"},
		lineTold{"> gets k2", "VALUE k2 7 3 1$\nabc$\nEND$\n"}, lineTold{"tick 8", "ok"}, lineTold{"where k2", "at b"}, lineTold{"tick 1", "ok"}, lineTold{"where k2", "at"},
		lineTold{"> get k2", "END$\n"}, lineTold{"> set k2 0 0 0 noreply", ""}, lineTold{"> ", ""}, lineTold{"where k2", "at b"}, lineTold{"crash a", "ok"}, lineTold{"where k2", "at b"},
		lineTold{"crash b", "ok"}, lineTold{"where k2", "at"}, lineTold{"crash c", "no"}, lineTold{"copy 1", "no"}, lineTold{"lost", "lost 0"}, lineTold{"what", "what"},
	)
}

// Lines that are spoilt in one of their words: they are no such lines, and do not count.
func TestSpoiltLines(t *testing.T) {
	numbers := []string{"", " ", "00", "01", "007", "+1", "-1", "-0", "1.0", "1e3", "0x1", "1_0", "x", "1x", "1000000001", "9999999999", "18446744073709551617", "1 ", " 1", "1 1", "1\r", "\u0661"}
	for _, number := range numbers {
		wantUnknown(t, "copy "+number)
		wantUnknown(t, "tick "+number)
	}
	for _, nodes := range []string{"", " ", "a", "a:", ":1", "a:0", "a:6", "a:01", "a:+1", "a::1", "a:1:1", "a:1 ", " a:1", "a:1  b:1", "b:1 a:1", "a:1 a:1", "A:1", "abcdefghi:1", "a:1\r", "a:1 b", "a 1", "a:1,b:1", "a:1 > b:1", "a:1 b:1 c:1 d:1 e:1 f:1 g:1 h:1 i:1"} {
		wantUnknown(t, "begin "+nodes)
	}
	for _, name := range []string{"", " ", " a", "a ", "a b", "a  b", "b "} {
		wantUnknown(t, "crash "+name)
	}
	for _, k := range []string{"", " ", " k", "k ", "k k", "k\r", "k\t", "\x7f", "k\x80", "é", "\x00", key(impl.MaxKey + 1)} {
		wantUnknown(t, "where "+k)
	}
	for _, word := range []string{"end", "lost", "ring"} {
		for _, more := range []string{" ", "  ", " a", " 1", " a:1", "\r", "\t", "s", "."} {
			wantUnknown(t, word+more)
		}
	}
	for _, word := range []string{"begin", "copy", "tick", "crash", "where", ">"} {
		wantUnknown(t, word)
	}
	for _, line := range []string{"begin b:2", "copy 1", "end", "tick 1", "crash a", "where k", "lost", "ring", "> version"} {
		wantUnknown(t, " "+line)
		wantUnknown(t, "x"+line)
		wantUnknown(t, "\r"+line)
		if line[0] != '>' {
			wantUnknown(t, strings.ToUpper(line))
			wantUnknown(t, strings.ToUpper(line[:1])+line[1:])
			wantUnknown(t, strings.Replace(line, " ", "  ", 1)+"\r")
			wantUnknown(t, strings.Replace(line, " ", "\t", 1)+" ")
		}
	}
	for _, line := range []string{"", " ", "  ", ">", ">>", ">x", ">version", ">\tversion", ">\rversion", " > version", ">> version", "what", "ok", "no", "at", "fly", "get k", "version", "quit", "# ring", "\r", "\x00", "\xff", "tick1", "copy:1", "begin:a:1"} {
		wantUnknown(t, line)
	}
}

// What is behind the first blank comes with a line end, whatever it is: also nothing, blanks, and all bytes.
func TestBytesLines(t *testing.T) {
	for text, told := range map[string]string{
		"":                     "ERROR$\n",
		" ":                    "ERROR$\n",
		" version":             "ERROR$\n",
		"version":              "VERSION 1$\n",
		"version\r":            "ERROR$\n",
		"version ":             "CLIENT_ERROR bad$\n",
		"fly":                  "ERROR$\n",
		"\r":                   "ERROR$\n",
		"\r\r":                 "ERROR$\n",
		"> version":            "ERROR$\n",
		"get k\r":              "CLIENT_ERROR bad$\n",
		"get k":                "END$\n",
		"get  k":               "CLIENT_ERROR bad$\n",
		"$":                    "ERROR$\n",
		"flush_all":            "OK$\n",
		"delete k":             "NOT_FOUND$\n",
		"delete k noreply":     "",
		"touch k 01":           "CLIENT_ERROR bad$\n",
		"incr k 1000000001":    "CLIENT_ERROR bad$\n",
		"set k 0 0 1001":       "CLIENT_ERROR bad$\n",
		"\x00\x01\xfe\xff\x80": "ERROR$\n",
		"get \x80":             "CLIENT_ERROR bad$\n",
		"get \u00e9":           "CLIENT_ERROR bad$\n",
	} {
		wantTold(t, "bytes", lineTold{"> " + text, told}, lineTold{"> version", "VERSION 1$\n"})
		wantEvents(t, script("> "+text), bytesEvent(text+"\r\n"))
	}
	for b := range 256 {
		if b == '\n' {
			continue
		}
		sign := string([]byte{byte(b)})
		shown := sign
		if b == '\r' {
			shown = "$"
		}
		wantTold(t, "each byte in Data", lineTold{"> set k 0 0 3", ""}, lineTold{"> x" + sign + "y", "STORED$\n"}, lineTold{"> get k", "VALUE k 0 3$\nx" + shown + "y$\nEND$\n"})
	}
}

// A command may come over several lines; its Data has the line ends between them.
func TestACommandOverSeveralLines(t *testing.T) {
	wantTold(t, "one line of Data", lineTold{"> set k 5 0 3", ""}, lineTold{"> a b", "STORED$\n"}, lineTold{"> get k", "VALUE k 5 3$\na b$\nEND$\n"})
	wantTold(t, "no Data", lineTold{"> set k 5 0 0", ""}, lineTold{"> ", "STORED$\n"}, lineTold{"> get k", "VALUE k 5 0$\n$\nEND$\n"})
	wantTold(t, "three lines of Data",
		lineTold{"> set k 0 0 9", ""}, lineTold{"> abc", ""}, lineTold{"> ", ""}, lineTold{"> de", "STORED$\n"}, lineTold{"> gets k", "VALUE k 0 9 1$\nabc$\n$\nde$\nEND$\n"})
	wantTold(t, "Data that looks like commands", lineTold{"> set k 0 0 11", ""}, lineTold{"> quit", ""}, lineTold{"> get k", "STORED$\n"}, lineTold{"> version", "VERSION 1$\n"})
	wantTold(t, "Data that ends in a 13", lineTold{"> set k 0 0 12", ""}, lineTold{"> quit", ""}, lineTold{"> get k", ""}, lineTold{"> version", "CLIENT_ERROR bad$\nERROR$\n"}, lineTold{"where k", "at"})
	wantTold(t, "Data that is a quit", lineTold{"> set k 0 0 6", ""}, lineTold{"> quit", ""}, lineTold{"> ", "STORED$\n"}, lineTold{"> get k", "VALUE k 0 6$\nquit$\n$\nEND$\n"})
	wantTold(t, "other lines between",
		lineTold{"> set k2 0 5 4", ""}, lineTold{"begin a:1 b:2", "ok"}, lineTold{"> ab", ""}, lineTold{"tick 7", "ok"}, lineTold{"copy 3", "ok"}, lineTold{"end", "ok"},
		lineTold{"where k2", "at"}, lineTold{"> ", "STORED$\n"}, lineTold{"where k2", "at b"}, lineTold{"tick 4", "ok"}, lineTold{"> get k2", "VALUE k2 0 4$\nab$\n$\nEND$\n"}, lineTold{"tick 1", "ok"}, lineTold{"> get k2", "END$\n"})
	long := "> " + key(98)
	wantTold(t, "as much Data as may be", lineTold{"> set k 0 0 100", ""}, lineTold{long, ""}, lineTold{"> ", "STORED$\n"})
	wantTold(t, "more than that", lineTold{"> set k 0 0 101", ""}, lineTold{long, ""}, lineTold{"> x", "SERVER_ERROR large$\n"}, lineTold{"> get k", "END$\n"})
	wantTold(t, "Data that never ends", lineTold{"> set k 0 0 1000", ""}, lineTold{"> get k", ""}, lineTold{"> quit", ""}, lineTold{"where k", "at"})
}

// What goes out of a line that finishes several is all of their answers; one byte 10 is behind it all.
func TestALineThatFinishesSeveral(t *testing.T) {
	wantTold(t, "Data without its end, then a command", lineTold{"> set k 0 0 1", ""}, lineTold{"> xyzversion", "CLIENT_ERROR bad$\nVERSION 1$\n"})
	wantTold(t, "Data without its end, then an empty line", lineTold{"> set k 0 0 1", ""}, lineTold{"> xyz", "CLIENT_ERROR bad$\nERROR$\n"})
	wantTold(t, "Data a byte too long", lineTold{"> set k 0 0 1", ""}, lineTold{"> xy", "CLIENT_ERROR bad$\nERROR$\n"})
	long := key(impl.MaxLine + 1)
	for many := 1; many <= 7; many++ {
		faults := strings.Repeat("CLIENT_ERROR bad$\n", many)
		wantTold(t, "lines that can't be one", lineTold{"> " + strings.Repeat(long, many) + "version", faults + "VERSION 1$\n"})
		wantTold(t, "and a get", lineTold{"> set k 0 0 1", ""}, lineTold{"> x", "STORED$\n"}, lineTold{"> " + strings.Repeat(long, many) + "get k", faults + "VALUE k 0 1$\nx$\nEND$\n"})
		wantTold(t, "and a quit", lineTold{"> " + strings.Repeat(long, many) + "quit", faults}, lineTold{"> version", ""})
	}
}

// A line that can't be a command any more is told at once, and what is behind it in the same line is read on.
func TestALineThatCanNotBeACommand(t *testing.T) {
	for _, f := range []struct {
		many int
		told string
	}{
		{impl.MaxLine - 2, "ERROR$\n"},
		{impl.MaxLine - 1, "ERROR$\n"},
		{impl.MaxLine, "CLIENT_ERROR bad$\nERROR$\n"},
		{impl.MaxLine + 1, "CLIENT_ERROR bad$\nERROR$\n"},
		{impl.MaxLine + 2, "CLIENT_ERROR bad$\nERROR$\n"},
		{2*impl.MaxLine - 1, "CLIENT_ERROR bad$\nERROR$\n"},
		{2*impl.MaxLine + 1, "CLIENT_ERROR bad$\nCLIENT_ERROR bad$\nERROR$\n"},
	} {
		wantTold(t, strconv.Itoa(f.many)+" bytes", lineTold{"> " + key(f.many), f.told}, lineTold{"> version", "VERSION 1$\n"}, lineTold{"lost", "lost 0"})
	}
	wantTold(t, "nine long keys", lineTold{"> get" + strings.Repeat(" "+key(30), 9), "END$\n"})
	wantTold(t, "ten long keys", lineTold{"> get" + strings.Repeat(" "+key(30), 10), "CLIENT_ERROR bad$\nERROR$\n"})
}

// Behind a quit lines of bytes tell nothing, but a byte 10; all others go on.
func TestLinesBehindAQuit(t *testing.T) {
	wantTold(t, "behind a quit",
		lineTold{"> set k2 0 9 1", ""}, lineTold{"> x", "STORED$\n"}, lineTold{"> quit", ""}, lineTold{"> get k2", ""}, lineTold{"> fly", ""}, lineTold{"> ", ""}, lineTold{"> quit", ""},
		lineTold{"> delete k2", ""}, lineTold{">", "what"}, lineTold{"where k2", "at a"}, lineTold{"begin b:2", "ok"}, lineTold{"end", "no"}, lineTold{"copy 1", "ok"}, lineTold{"where k2", "at b"}, lineTold{"end", "ok"},
		lineTold{"ring", "b:2"}, lineTold{"> " + key(400), ""}, lineTold{"tick 8", "ok"}, lineTold{"where k2", "at b"}, lineTold{"crash b", "ok"}, lineTold{"where k2", "at"}, lineTold{"lost", "lost 0"}, lineTold{"fly", "what"})
	wantTold(t, "no quit", lineTold{"> quit noreply", "CLIENT_ERROR bad$\n"}, lineTold{"> quit ", "CLIENT_ERROR bad$\n"}, lineTold{"> quit\r", "ERROR$\n"}, lineTold{"quit", "what"}, lineTold{"> version", "VERSION 1$\n"})
}

// Each command of chapter 1 by a line, on a key that is there, on one that is not.
func TestEachCommandByLines(t *testing.T) {
	for _, f := range eachName("k") {
		l := []lineTold{{"> set k 7 0 1", ""}, {"> 5", "STORED$\n"}, {"> set k 7 0 1", ""}, {"> 5", "STORED$\n"}, {"> set k 7 0 1", ""}, {"> 5", "STORED$\n"}, {"> set k 7 0 1", ""}, {"> 5", "STORED$\n"}, {"> set k 7 0 1", ""}, {"> 5", "STORED$\n"}}
		shown := strings.NewReplacer("\r", "$")
		for _, told := range []struct{ text, out string }{{f.text, f.out}, {f.quiet, ""}} {
			if told.text == "" {
				continue
			}
			words := strings.Split(strings.TrimSuffix(told.text, "\r\n"), "\r\n")
			with := slices.Clone(l)
			for i, word := range words {
				out := ""
				if i == len(words)-1 {
					out = shown.Replace(told.out)
				}
				with = append(with, lineTold{"> " + word, out})
			}
			wantTold(t, told.text, append(with, lineTold{"> gets k", shown.Replace(f.then)})...)
		}
	}
}
