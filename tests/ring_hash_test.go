package tests

import (
	"hash/fnv"
	"strings"
	"testing"

	"loop.example/g00170/impl"
)

func everyByte() string {
	b := make([]byte, 256)
	for i := range b {
		b[i] = byte(i)
	}
	return string(b)
}

// The numbers were reckoned apart from the program, from the document's words.
func TestHashKey(t *testing.T) {
	for _, c := range []struct {
		s    string
		want uint32
	}{
		{"", 1872831096}, {"\x00", 934830778}, {"\xff", 1999630906}, {"\x00\x00", 754361772},
		{"a", 2522059751}, {"b", 3762782744}, {"k1", 1019865039}, {"a-0", 3788645972}, {"foobar", 1509766717},
		{everyByte(), 1112896853}, {strings.Repeat("\xff", 1000), 1516481910},
	} {
		if got := impl.HashKey(c.s); got != c.want {
			t.Errorf("HashKey(%q) = %d; want %d", c.s, got, c.want)
		}
	}
}

func TestHashKeyOfEachByte(t *testing.T) {
	seen := map[uint32]int{impl.HashKey(""): -1}
	for b := range 256 {
		s := string([]byte{byte(b)})
		got := impl.HashKey(s)
		if got != slowHash(s) {
			t.Errorf("HashKey(%q) = %d; want %d", s, got, slowHash(s))
		}
		if other, there := seen[got]; there {
			t.Errorf("bytes %d and %d have one hash", b, other)
		}
		seen[got] = b
	}
}

func TestHashKeyOfManyBytes(t *testing.T) {
	n := &numbers{}
	for round := range 3000 {
		b := make([]byte, n.below(60))
		for i := range b {
			b[i] = byte(n.below(256))
		}
		s := string(b)
		if round%100 == 0 {
			s = strings.Repeat(s, 50)
		}
		if got, want := impl.HashKey(s), slowHash(s); got != want {
			t.Fatalf("HashKey(%q) = %d; want %d", s, got, want)
		}
	}
}

// The first half is a hash that the library has too.
func TestHashKeyByTheLibrary(t *testing.T) {
	for _, s := range []string{"", "a", "key", everyByte(), strings.Repeat("long", 50000)} {
		f := fnv.New32a()
		f.Write([]byte(s))
		h := f.Sum32()
		for range 3 {
			h = (h ^ h>>15) * 2654435761
		}
		if got := impl.HashKey(s); got != h {
			t.Errorf("HashKey of %d bytes is %d; want %d", len(s), got, h)
		}
	}
}
