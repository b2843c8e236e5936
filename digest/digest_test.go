package digest_test

import (
	"encoding/binary"
	"hash/fnv"
	"strings"
	"testing"

	"coinage/digest"
)

func TestExamples(t *testing.T) {
	for _, c := range []struct {
		s    string
		want uint64
	}{
		{"", 14695981039346656037},
		{"", 0xcbf29ce484222325},
		{"\x61", 0xaf63dc4c8601ec8c},
	} {
		if h := digest.H(c.s); h != c.want {
			t.Errorf("H(%x) = %x, want %x", c.s, h, c.want)
		}
	}
}

func TestAllBytes(t *testing.T) {
	var all strings.Builder
	for i := range 256 {
		all.WriteByte(byte(i))
		for _, s := range []string{string([]byte{byte(i)}), all.String()} {
			h := fnv.New64a()
			h.Write([]byte(s))
			if got := digest.H(s); got != h.Sum64() {
				t.Errorf("H(%x) = %x, want %x", s, got, h.Sum64())
			}
			if got := digest.ID(s); got != string(h.Sum(nil)) {
				t.Errorf("ID(%x) = %x, want %x", s, got, h.Sum(nil))
			}
		}
	}
}

func TestBytes(t *testing.T) {
	for _, n := range []uint64{0, 1, 255, 256, 0x0102030405060708, 1 << 63, 1<<64 - 1} {
		want := string(binary.BigEndian.AppendUint64(nil, n))
		if got := digest.Bytes(n); got != want {
			t.Errorf("Bytes(%d) = %x, want %x", n, got, want)
		}
	}
}
