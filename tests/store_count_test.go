package tests

import (
	"strings"
	"testing"

	"loop.example/g00170/impl"
)

func TestCountText(t *testing.T) {
	nines := strings.Repeat("9", 18)
	for _, c := range []struct {
		data string
		by   int
		down bool
		want string
	}{
		{"0", 0, false, "0"}, {"0", 0, true, "0"}, {"0", 1, false, "1"}, {"0", 1, true, "0"},
		{"9", 1, false, "10"}, {"10", 1, true, "9"}, {"10", 5, false, "15"},
		{"5", 5, true, "0"}, {"5", 6, true, "0"}, {"5", 4, true, "1"}, {"5", impl.MaxNumber, true, "0"},
		{"0", impl.MaxNumber, false, "1000000000"}, {"1000000000", impl.MaxNumber, true, "0"}, {"1000000001", impl.MaxNumber, true, "1"},
		{nines, 0, false, nines}, {nines, 0, true, nines}, {nines, 1, true, strings.Repeat("9", 17) + "8"},
		{strings.Repeat("9", 17) + "8", 1, false, nines},
		{"999999998999999999", impl.MaxNumber, false, nines},
		{"100000000000000000", 1, true, strings.Repeat("9", 17)},
		{strings.Repeat("9", 17), 1, false, "100000000000000000"},
		{"123456789012345678", 1000, false, "123456789012346678"},
	} {
		if got, ok := impl.CountText(c.data, c.by, c.down); got != c.want || !ok {
			t.Errorf("CountText(%q, %d, %v) = %q, %v; want %q, true", c.data, c.by, c.down, got, ok, c.want)
		}
	}
}

func TestCountTextSaysNo(t *testing.T) {
	nines := strings.Repeat("9", 18)
	for _, c := range []struct {
		data string
		by   int
		down bool
	}{
		{"", 0, false}, {"00", 0, false}, {"01", 1, false}, {"007", 1, true}, {"-1", 5, false}, {"+1", 5, false}, {"-0", 0, false},
		{" 1", 1, false}, {"1 ", 1, false}, {"1\r\n", 1, false}, {"1_0", 1, false}, {"0x1", 1, false}, {"1.0", 1, false}, {"1e3", 1, false},
		{"a", 1, false}, {"１", 1, false}, {"\x00", 1, false}, {"1\x00", 1, false},
		{nines, 1, false}, {"999999998999999999", impl.MaxNumber + 1, false}, {"999999999000000000", impl.MaxNumber, false},
		{"1000000000000000000", 0, false}, {"1000000000000000000", 1, true}, {"0" + nines, 0, false}, {"000000000000000001", 0, false},
		{"9223372036854775807", 1, false}, {"9223372036854775808", 0, true}, {"18446744073709551616", 0, false}, {strings.Repeat("1", 5000), 0, true},
		{"5", -1, false}, {"5", -1, true}, {"5", impl.MaxNumber + 1, false}, {"5", impl.MaxNumber + 1, true},
		{"5", -1 << 63, true}, {"5", 1<<63 - 1, false}, {"5", -1 << 63, false}, {"5", 1<<63 - 1, true},
	} {
		if got, ok := impl.CountText(c.data, c.by, c.down); got != "" || ok {
			t.Errorf("CountText(%q, %d, %v) = %q, %v; want the zero answer", c.data, c.by, c.down, got, ok)
		}
	}
}

func TestCountTextIsNewMemory(t *testing.T) {
	for _, data := range []string{"5", "77", "1234567890"} {
		data = strings.Clone(data)
		if got, _ := impl.CountText(data, 0, false); got != data || len(data) > 2 && shares(got, data) {
			t.Error("the answer shares memory with the text", got)
		}
	}
}
