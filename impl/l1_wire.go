package impl

import (
	"strconv"
	"strings"
)

const MaxLine = 300
const MaxKey = 30
const MaxKeys = 10
const MaxValue = 100
const MaxSwallow = 1000
const MaxNumber = 1000000000
const WireOk = 0
const WireMore = 1
const WireError = 2
const WireClient = 3
const WireLarge = 4

const maxPieces = 60
const lineEnd = "\r\n"
const quietWord = "noreply"
const quitName = "quit"

type Cmd struct {
	Name   string
	Keys   []string
	Flags  int
	Expire int
	Number int
	Data   string
	Quiet  bool
}

type cmdKind int

const (
	kindNone cmdKind = iota
	kindGet
	kindSet
	kindCas
	kindCount
	kindTouch
	kindDelete
	kindPlain
)

// cmdForm says what a kind has behind its name. One form serves all kinds,
// since they all have their words in the order of its fields.
type cmdForm struct {
	leastKeys int
	mostKeys  int
	flags     bool
	expire    bool
	data      bool
	number    bool
	quiet     bool
}

func kindOf(name string) cmdKind {
	switch name {
	case "get", "gets":
		return kindGet
	case "set", "add", "replace", "append", "prepend":
		return kindSet
	case "cas":
		return kindCas
	case "incr", "decr":
		return kindCount
	case "touch":
		return kindTouch
	case "delete":
		return kindDelete
	case "flush_all", "version", quitName:
		return kindPlain
	}
	return kindNone
}

func formOf(kind cmdKind) cmdForm {
	one := cmdForm{leastKeys: 1, mostKeys: 1, quiet: true}
	switch kind {
	case kindGet:
		return cmdForm{leastKeys: 1, mostKeys: MaxKeys}
	case kindSet, kindCas:
		one.flags, one.expire, one.data = true, true, true
		one.number = kind == kindCas
		return one
	case kindCount:
		one.number = true
		return one
	case kindTouch:
		one.expire = true
		return one
	case kindDelete:
		return one
	}
	return cmdForm{}
}

func GoodKey(s string) bool {
	if len(s) < 1 || len(s) > MaxKey {
		return false
	}
	for i := range len(s) {
		if s[i] < 33 || s[i] > 126 {
			return false
		}
	}
	return true
}

func GoodCmd(c Cmd) bool {
	kind := kindOf(c.Name)
	if kind == kindNone {
		return false
	}
	f := formOf(kind)
	return goodKeys(c.Keys, f.leastKeys, f.mostKeys) &&
		goodNumber(c.Flags, f.flags) &&
		goodNumber(c.Expire, f.expire) &&
		goodNumber(c.Number, f.number) &&
		(c.Data == "" || f.data && len(c.Data) <= MaxValue) &&
		(!c.Quiet || f.quiet)
}

func goodKeys(keys []string, least, most int) bool {
	if len(keys) < least || len(keys) > most {
		return false
	}
	for _, k := range keys {
		if !GoodKey(k) {
			return false
		}
	}
	return true
}

func goodNumber(n int, named bool) bool {
	return n == 0 || named && n > 0 && n <= MaxNumber
}

func CmdText(c Cmd) (string, bool) {
	if !GoodCmd(c) {
		return "", false
	}
	f := formOf(kindOf(c.Name))
	text := strings.Join(wordsOf(c, f), " ") + lineEnd
	// Many long keys make a line that ReadCmd would refuse: the 13 counts,
	// since it too stands ahead of the 10.
	if len(text)-1 > MaxLine {
		return "", false
	}
	if f.data {
		text += c.Data + lineEnd
	}
	return text, true
}

func wordsOf(c Cmd, f cmdForm) []string {
	words := []string{c.Name}
	words = append(words, c.Keys...)
	if f.flags {
		words = append(words, strconv.Itoa(c.Flags))
	}
	if f.expire {
		words = append(words, strconv.Itoa(c.Expire))
	}
	if f.data {
		words = append(words, strconv.Itoa(len(c.Data)))
	}
	if f.number {
		words = append(words, strconv.Itoa(c.Number))
	}
	if c.Quiet {
		words = append(words, quietWord)
	}
	return words
}

func ReadCmd(s string) (Cmd, int, int) {
	words, taken, code := readLine(s)
	if code != WireOk {
		return Cmd{}, taken, code
	}
	kind := kindOf(words[0])
	if kind == kindNone {
		return Cmd{}, taken, WireError
	}
	f := formOf(kind)
	c, size, ok := readWords(words, f)
	if !ok {
		return Cmd{}, taken, WireClient
	}
	if !f.data {
		return c, taken, WireOk
	}
	data, more, code := readData(s[taken:], size)
	if code == WireMore {
		return Cmd{}, 0, WireMore
	}
	if code != WireOk {
		return Cmd{}, taken + more, code
	}
	c.Data = data
	return c, taken + more, WireOk
}

// readLine goes over the bytes of a line from state to state: the words
// between its blanks, how many bytes the line and its end have, and a code.
func readLine(s string) ([]string, int, int) {
	var words []string
	from, at := 0, 0
inWord:
	if at > MaxLine {
		goto tooLong
	}
	if at == len(s) {
		goto unfinished
	}
	switch s[at] {
	case ' ':
		goto blank
	case '\n':
		goto ended
	}
	at++
	goto inWord
blank:
	words = append(words, s[from:at])
	at++
	from = at
	goto inWord
ended:
	words = append(words, strings.TrimSuffix(s[from:at], "\r"))
	return words, at + 1, WireOk
unfinished:
	return nil, 0, WireMore
tooLong:
	return nil, MaxLine + 1, WireClient
}

// readWords makes a command of the words of its line: also how many bytes of
// Data it is to have, and whether the words are as the form says.
func readWords(words []string, f cmdForm) (Cmd, int, bool) {
	size := 0
	c := Cmd{Name: strings.Clone(words[0])}
	r := wordReader{words: words[1:]}
	c.Keys = r.keys(f)
	if f.flags {
		c.Flags = r.number(MaxNumber)
	}
	if f.expire {
		c.Expire = r.number(MaxNumber)
	}
	if f.data {
		size = r.number(MaxSwallow)
	}
	if f.number {
		c.Number = r.number(MaxNumber)
	}
	if f.quiet {
		c.Quiet = r.quiet()
	}
	if r.bad || len(r.words) > 0 {
		return Cmd{}, 0, false
	}
	return c, size, true
}

// wordReader hands out words from the front. It stays bad after the first
// word that is not as asked, so that only the end needs to be looked at.
type wordReader struct {
	words []string
	bad   bool
}

func (r *wordReader) next() string {
	if len(r.words) == 0 {
		r.bad = true
		return ""
	}
	word := r.words[0]
	r.words = r.words[1:]
	return word
}

func (r *wordReader) keys(f cmdForm) []string {
	many := max(f.leastKeys, min(f.mostKeys, len(r.words)))
	if many == 0 {
		return nil
	}
	keys := make([]string, many)
	for i := range keys {
		keys[i] = r.key()
	}
	return keys
}

func (r *wordReader) key() string {
	key := strings.Clone(r.next())
	r.bad = r.bad || !GoodKey(key)
	return key
}

func (r *wordReader) number(most int) int {
	n, ok := readNumber(r.next(), most)
	r.bad = r.bad || !ok
	return n
}

func (r *wordReader) quiet() bool {
	if len(r.words) == 0 {
		return false
	}
	if r.next() != quietWord {
		r.bad = true
	}
	return true
}

// readNumber holds the word against the number's own text, since signs and
// needless noughts are read by the library too.
func readNumber(word string, most int) (int, bool) {
	n, err := strconv.Atoi(word)
	if err != nil || n < 0 || n > most || strconv.Itoa(n) != word {
		return 0, false
	}
	return n, true
}

// readData reads so many bytes and a line end; of a fault too it tells how
// many bytes that takes.
func readData(s string, size int) (string, int, int) {
	all := size + len(lineEnd)
	if len(s) < all {
		return "", 0, WireMore
	}
	if s[size:all] != lineEnd {
		return "", all, WireClient
	}
	if size > MaxValue {
		return "", all, WireLarge
	}
	return strings.Clone(s[:size]), all, WireOk
}

func FaultText(code int) string {
	switch code {
	case WireError:
		return "ERROR" + lineEnd
	case WireClient:
		return "CLIENT_ERROR bad" + lineEnd
	case WireLarge:
		return "SERVER_ERROR large" + lineEnd
	}
	return ""
}

// CmdsIn reads all pieces as one text: what ReadCmd answers of a text that
// has something whole at its front is the same whatever comes behind.
func CmdsIn(pieces []string) ([]Cmd, []int, int, bool) {
	if len(pieces) > maxPieces {
		return nil, nil, 0, false
	}
	var cmds []Cmd
	var codes []int
	rest := strings.Join(pieces, "")
	for {
		c, taken, code := ReadCmd(rest)
		if code == WireMore {
			return cmds, codes, len(rest), true
		}
		cmds = append(cmds, c)
		codes = append(codes, code)
		if c.Name == quitName {
			return cmds, codes, 0, true
		}
		rest = rest[taken:]
	}
}
