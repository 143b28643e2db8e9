package config

import (
	"bytes"
	"encoding/hex"
	"reflect"
	"strings"
	"testing"

	"clockwall/api"
)

// encoded is Encode, where it must work.
func encoded(t testing.TB, c api.Config) string {
	t.Helper()
	s, e := Encode(c)
	if e != api.OK {
		t.Fatalf("Encode(%v): error %d", c, e)
	}
	return s
}

// refused tells a fault, if an image is not refused so.
func refused(t *testing.T, name, s string, at int, e api.Errno) {
	t.Helper()
	c, gotAt, gotE := Decode(s)
	if gotAt != at || gotE != e {
		t.Errorf("%s: %d at %d, not %d at %d", name, gotE, gotAt, e, at)
	}
	if !reflect.DeepEqual(c, api.Config{}) {
		t.Errorf("%s: refused, but with %v", name, c)
	}
}

// same config, whether its empty lists are nil or not.
func same(a, b api.Config) bool {
	return reflect.DeepEqual(withLists(a), withLists(b))
}

func withLists(c api.Config) api.Config {
	c.Slots = append([]api.Slot{}, c.Slots...)
	c.Owners = append([]int{}, c.Owners...)
	c.Channels = append([]api.Channel{}, c.Channels...)
	c.Tasks = append([]api.Task{}, c.Tasks...)
	return c
}

// B2
func TestEncode(t *testing.T) {
	for _, x := range []struct {
		c    api.Config
		want []byte
	}{
		{small(), []byte{67, 1, 1, 1, 7, 1, 1, 0, 0, 100, 0, 0, 0}},
		{plain(), []byte{67, 2, 2, 3, 30, 10,
			2, 0, 0, 120, 1, 1, 44,
			2, 0, 2,
			2, 0, 1, 2, 1, 0, 3,
			2, 0, 0, 100, 0, 60, 0, 90, 2, 1, 144, 1, 44, 1, 2}},
	} {
		if got := encoded(t, x.c); got != string(x.want) {
			t.Errorf("% x, not % x", got, x.want)
		}
	}
}

// B2
func TestGreatestImage(t *testing.T) {
	if n := len(encoded(t, great())); n != 86 || n > api.MaxImage {
		t.Errorf("%d bytes", n)
	}
}

// The document's second example.
func TestExample(t *testing.T) {
	c := api.Config{Sets: 1, Ways: 1, Domains: 1, Pad: 10, Quantum: 4, Slots: []api.Slot{{Domain: 0, Length: 100}}, Tasks: []api.Task{{Domain: 0, Period: 50, Budget: 40, Deadline: 30}}}
	s := encoded(t, c)
	if got := hex.EncodeToString([]byte(s)); got != "430101010a04010000640000010000320028001e" {
		t.Errorf("encoded as %s", got)
	}
	if d, at, e := Decode(s); e != api.OK || at != 0 || !same(c, d) {
		t.Errorf("decoded as %v, %d, %d", d, at, e)
	}
}

// B3, B5
func TestDecodedAsItWas(t *testing.T) {
	all := rights()
	for _, x := range changes {
		c := plain()
		x.do(&c)
		if x.want == api.OK {
			all = append(all, c)
		}
	}
	for _, c := range all {
		if d, at, e := Decode(encoded(t, c)); e != api.OK || at != 0 || !same(c, d) {
			t.Errorf("%v is decoded as %v, %d, %d", c, d, at, e)
		}
	}
}

// B5
func TestEmptyListsAreAlike(t *testing.T) {
	if a, b := encoded(t, small()), encoded(t, withLists(small())); a != b {
		t.Errorf("% x and % x", a, b)
	}
}

// B3
func TestMissingBytes(t *testing.T) {
	for _, c := range rights() {
		s := encoded(t, c)
		for n := range len(s) {
			refused(t, "missing bytes", s[:n], n, api.ErrForm)
		}
	}
}

// B3
func TestMoreBytes(t *testing.T) {
	for _, c := range rights() {
		s := encoded(t, c)
		for _, more := range []string{"\x00", "C", s, strings.Repeat("\xff", api.MaxImage-len(s))} {
			if len(s)+len(more) <= api.MaxImage {
				refused(t, "more bytes", s+more, len(s), api.ErrForm)
			}
		}
	}
}

// B3
func TestImageTooLong(t *testing.T) {
	s := encoded(t, plain())
	full := s + strings.Repeat("\x00", api.MaxImage-len(s))
	refused(t, "as long as may be", full, len(s), api.ErrForm)
	refused(t, "one more", full+"\x00", 0, api.ErrMany)
	refused(t, "too long, and nothing else is right", strings.Repeat("x", 201), 0, api.ErrMany)
	refused(t, "much too long", strings.Repeat("C", 1<<20), 0, api.ErrMany)
}

// with one byte of an image changed.
func with(s string, at int, b byte) string {
	l := []byte(s)
	l[at] = b
	return string(l)
}

// B3
func TestWrongBytes(t *testing.T) {
	s := encoded(t, plain())
	for _, x := range []struct {
		name string
		s    string
		at   int
		e    api.Errno
	}{
		{"another first byte", with(s, 0, 66), 0, api.ErrForm},
		{"another first byte alone", "D", 0, api.ErrForm},
		{"another first byte, and too many slots", with(with(s, 0, 0), 6, 255), 0, api.ErrForm},
		{"seven slots", with(s, 6, 7), 6, api.ErrForm},
		{"seven slots, and no more bytes", with(s, 6, 7)[:7], 6, api.ErrForm},
		{"five owners", with(s, 13, 5), 13, api.ErrForm},
		{"five owners, and no more bytes", with(s, 13, 5)[:14], 13, api.ErrForm},
		{"five channels", with(s, 16, 5), 16, api.ErrForm},
		{"five channels, and no more bytes", with(s, 16, 5)[:17], 16, api.ErrForm},
		{"seven tasks", with(s, 23, 7), 23, api.ErrForm},
		{"seven tasks, and no more bytes", with(s, 23, 7)[:24], 23, api.ErrForm},
		{"too many slots ahead of too many tasks", with(with(s, 6, 255), 23, 255), 6, api.ErrForm},
		{"six tasks are missing", with(s, 23, 6), len(s), api.ErrForm},
		{"one task, and more bytes", with(s, 23, 1), len(s) - 7, api.ErrForm},
		{"the form ahead of Check", with(with(s, 1, 0), 23, 7), 23, api.ErrForm},
		{"missing bytes ahead of Check", with(s, 1, 0)[:len(s)-1], len(s) - 1, api.ErrForm},
		{"more bytes ahead of Check", with(s, 1, 0) + "C", len(s), api.ErrForm},
		{"no sets", with(s, 1, 0), 0, api.ErrRange},
		{"four ways", with(s, 2, 4), 0, api.ErrRange},
		{"too little pad", with(s, 4, 21), 0, api.ErrState},
		{"a slot of no domain", with(s, 7, 3), 0, api.ErrNone},
		{"an owner that is none", with(s, 15, 255), 0, api.ErrNone},
		{"a channel to itself", with(s, 18, 0), 0, api.ErrForm},
		{"a channel too great", with(s, 19, 5), 0, api.ErrRange},
		{"a channel twice", with(with(s, 20, 0), 21, 1), 0, api.ErrTwice},
		{"a budget above the period", with(s, 27, 1), 0, api.ErrRange},
		{"no slots", "C\x01\x01\x01\x07\x01\x00\x00\x00\x00", 0, api.ErrMany},
	} {
		refused(t, x.name, x.s, x.at, x.e)
	}
}

// onlyEncoded: what is decoded is an image to the byte, and what is refused answers nothing.
func onlyEncoded(t *testing.T, s string) {
	t.Helper()
	c, at, e := Decode(s)
	if e != api.OK {
		if at < 0 || at > len(s) || !reflect.DeepEqual(c, api.Config{}) {
			t.Errorf("% x is refused with %v, %d, %d", s, c, at, e)
		}
		return
	}
	if again, e := Encode(c); at != 0 || e != api.OK || again != s {
		t.Errorf("% x is decoded, at %d, and encoded as % x, %d", s, at, again, e)
	}
}

// B5: of all images that differ in one byte.
func TestNothingElseIsDecoded(t *testing.T) {
	for _, c := range rights() {
		s := encoded(t, c)
		for at := range len(s) {
			for b := range 256 {
				onlyEncoded(t, with(s, at, byte(b)))
			}
		}
	}
}

// B3, B5, P1
func FuzzDecode(f *testing.F) {
	for _, c := range rights() {
		f.Add([]byte(encoded(f, c)))
	}
	f.Add([]byte{})
	f.Add(bytes.Repeat([]byte{67}, 201))
	f.Fuzz(func(t *testing.T, s []byte) { onlyEncoded(t, string(s)) })
}

// P2: a decoded config is the caller's: no change of it is seen in another one.
func TestDecodedIsNewMemory(t *testing.T) {
	s := encoded(t, great())
	first, _, _ := Decode(s)
	second, _, _ := Decode(s)
	first.Slots[0].Length, first.Owners[0], first.Channels[0].Size, first.Tasks[0].Budget = -1, -1, -1, -1
	if !same(second, great()) {
		t.Errorf("another one is %v now", second)
	}
	if third, _, e := Decode(s); e != api.OK || !same(third, great()) {
		t.Errorf("the next one is %v, %d", third, e)
	}
}
