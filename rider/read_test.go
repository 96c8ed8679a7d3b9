package rider

import (
	"math/rand"
	"strings"
	"testing"

	"spinet/api"
)

func TestEachCallAtEachPlace(t *testing.T) {
	for _, c := range []struct {
		sort sort
		part string
		want item
	}{
		{aByte, "\x00", item{sort: aByte}},
		{aByte, "\x80", item{sort: aByte, n: 128}},
		{aByte, "\xff", item{sort: aByte, n: 255}},
		{aNum, "\x3f", item{sort: aNum, n: 63}},
		{aNum, "\xbf\x7f", item{sort: aNum, n: -65}},
		{aNum, "\x80\x80\x80\x80\x78", item{sort: aNum, n: -1 << 31}},
		{aWord, "\x01\x02\x03\x84", item{sort: aWord, x: 0x84030201}},
		{aText, "\x00", item{sort: aText}},
		{aText, "a\xff\x00", item{sort: aText, s: "a\xff"}},
		{aText, longest + "\x00", item{sort: aText, s: longest}},
		{aRaw, "", item{sort: aRaw}},
		{aRaw, "a\x00\xff", item{sort: aRaw, s: "a\x00\xff"}},
	} {
		for _, ahead := range []string{"", "x", "\x80\x80\x80", longest + longest} {
			for _, behind := range []string{"", "y", "\x00\x00\x00\x00\x00", "\x80\x80", longest + longest} {
				r := Read(ahead + c.part + behind)
				if s := r.Raw(len(ahead)); s != ahead {
					t.Errorf("P8.2: Raw is %x, want %x", s, ahead)
				}
				mustStand(t, r, len(ahead), false, c.part+behind == "")
				if got := read(r, c.sort, len(c.part)); got != c.want {
					t.Errorf("P8.2: %#v, want %#v", got, c.want)
				}
				mustStand(t, r, len(ahead+c.part), false, behind == "")
				if s := r.Raw(len(behind)); s != behind {
					t.Errorf("P8.2: behind: %x, want %x", s, behind)
				}
				mustStand(t, r, len(ahead+c.part+behind), false, true)
			}
			for n := range len(c.part) {
				r := Read(ahead + c.part[:n])
				r.Raw(len(ahead))
				if got := read(r, c.sort, len(c.part)); got != (item{sort: c.sort}) {
					t.Errorf("P8.2: %x cut off tells %#v", c.part[:n], got)
				}
				mustStayBad(t, r, len(ahead))
			}
		}
	}
}

func TestEveryByteIsRead(t *testing.T) {
	for b := range 256 {
		r := Read(string([]byte{byte(b), 'x'}))
		if got := r.Byte(); got != b {
			t.Errorf("P8.2: Byte is %d, want %d", got, b)
		}
		mustStand(t, r, 1, false, false)
	}
}

func TestNumThatIsNone(t *testing.T) {
	for _, s := range []string{
		"", "\x80", "\xff", "\x80\x80", "\xff\xff\xff\xff", "\x80\x80\x80\x80",
		"\xc0\x80\x00", "\x80\x00", "\xff\x7f", "\xbf\x00", "\xc0\x7f", "\xff\xff\x7f", "\xff\xff\xff\x7f", "\xff\xff\xff\xff\x7f", "\x80\x80\x00", "\x80\x80\x80\x00", "\x80\x80\x80\x80\x00", "\x81\x80\x80\x80\x00",
		"\xff\xff\xff\xff\x0f", "\xff\xff\xff\xff\x08", "\x80\x80\x80\x80\x08", "\x80\x80\x80\x80\x10", "\x80\x80\x80\x80\x20", "\x80\x80\x80\x80\x40", "\x80\x80\x80\x80\x70", "\x80\x80\x80\x80\x77", "\x80\x80\x80\x80\x3f",
		"\xff\xff\xff\xff\xff", "\x80\x80\x80\x80\x80", "\xff\xff\xff\xff\x87", "\x80\x80\x80\x80\xf8",
		"\xff\xff\xff\xff\xff\x00", "\x80\x80\x80\x80\x80\x00", "\x80\x80\x80\x80\xf8\x7f", "\xff\xff\xff\xff\x87\x00", "\x80\x80\x80\x80\x80\x80\x80\x80\x80\x00", "\xff\xff\xff\xff\xff\xff\xff\xff\xff\x7f",
	} {
		for _, ahead := range []string{"", "ab"} {
			r := Read(ahead + s)
			r.Raw(len(ahead))
			if n := r.Num(); n != 0 {
				t.Errorf("P8.2: %x is read as %d", s, n)
			}
			mustStayBad(t, r, len(ahead))
		}
	}
}

func TestNumOfAllShortTexts(t *testing.T) {
	for a := range 256 {
		mustReadAs(t, string([]byte{byte(a)}), aNum, 0)
		for b := range 256 {
			mustReadAs(t, string([]byte{byte(a), byte(b)}), aNum, 0)
		}
	}
}

func TestNumOfLongerTexts(t *testing.T) {
	const bytes = "\x00\x01\x07\x08\x3f\x40\x77\x78\x7f\x80\x87\xbf\xc0\xf8\xff"
	const part = "\x00\x3f\x40\x7f\x80\xbf\xc0\xff"
	for i := range 8 * 8 * 8 * 8 * len(bytes) {
		var s []byte
		for n := i / len(bytes); len(s) < 4; n /= 8 {
			s = append(s, part[n%8])
		}
		text := string(s) + bytes[i%len(bytes):][:1]
		mustReadAs(t, text, aNum, 0)
		mustReadAs(t, text+"\x00", aNum, 0)
		mustReadAs(t, "\x80"+text, aNum, 0)
	}
	for b := range 256 {
		mustReadAs(t, "\x80\x80\x80\x80"+string([]byte{byte(b)}), aNum, 0)
		mustReadAs(t, "\xff\xff\xff\xff"+string([]byte{byte(b)})+"\x00", aNum, 0)
	}
}

func TestTextIsRead(t *testing.T) {
	for n := range api.MaxString + 1 {
		r := Read(longest[:n] + "\x00\x00")
		if s := r.Text(); s != longest[:n] {
			t.Errorf("P8.2: Text of %d bytes is %q", n, s)
		}
		mustStand(t, r, n+1, false, false)
		if s := r.Text(); s != "" {
			t.Errorf("P8.2: an empty text is %q", s)
		}
		mustStand(t, r, n+2, false, true)
	}
}

func TestTextThatIsNoneIsNotRead(t *testing.T) {
	for _, s := range []string{"", "a", "abc", longest, tooLong, tooLong + "\x00", tooLong + "\x00\x00", longest + longest + "\x00", strings.Repeat("a", api.MaxFile) + "\x00"} {
		for _, ahead := range []string{"", "\x00", "a\x00b\x00"} {
			r := Read(ahead + s)
			r.Raw(len(ahead))
			if got := r.Text(); got != "" {
				t.Errorf("P8.2: Text of %.100x is %q", s, got)
			}
			mustStayBad(t, r, len(ahead))
		}
	}
}

func TestRaw(t *testing.T) {
	for _, text := range []string{"", "a", "\x00", "abc\x00\xff", longest + longest, strings.Repeat("r", 2*api.MaxFile)} {
		for at := 0; at <= len(text); at += 1 + len(text)/7 {
			left := len(text) - at
			for _, n := range []int{0, 1, left / 2, left - 1, left, left + 1, left + 2, len(text) + 1, -1, -2, -left, -left - 1, least, least + 1, least + at, greatest, greatest - 1, greatest - at, greatest - at + 1} {
				r, m := Read(text), &model{text: text}
				mustAgree(t, r, m, aRaw, at)
				mustAgree(t, r, m, aRaw, n)
				mustAgree(t, r, m, aRaw, 0)
			}
			r := Read(text)
			r.Raw(at)
			if s := r.Raw(left + 1); s != "" {
				t.Errorf("P8.4: Raw goes beyond: %.100x", s)
			}
			mustStayBad(t, r, at)
		}
	}
	r := Read("ab")
	for range 3 {
		if s := r.Raw(0); s != "" {
			t.Errorf("P8.2: Raw(0) is %q", s)
		}
		mustStand(t, r, 0, false, false)
	}
	r.Raw(-1)
	mustStayBad(t, r, 0)
}

func TestLongTextsAreRead(t *testing.T) {
	text := strings.Repeat("\x01", 3*api.MaxFile)
	r := Read(text)
	for i := range len(text) {
		if r.At() != i || r.Byte() != 1 {
			t.Fatalf("P8.2: at %d", i)
		}
	}
	mustStand(t, r, len(text), false, true)
	if r.Byte() != 0 {
		t.Error("P8.4: a byte behind the end")
	}
	mustStayBad(t, r, len(text))
}

func TestEmpty(t *testing.T) {
	r := Read("")
	if r == nil {
		t.Fatal("P8.2: Read is nil")
	}
	mustStand(t, r, 0, false, true)
	r.Raw(0)
	mustStand(t, r, 0, false, true)
	for s := range sorts {
		mustReadAs(t, "", s, 1)
	}
}

func TestNothingIsThereAtTheEnd(t *testing.T) {
	for s := range sorts {
		r := Read("abcd")
		r.Word()
		mustStand(t, r, 4, false, true)
		if got := read(r, s, 1); got != (item{sort: s}) {
			t.Errorf("P8.2: at the end: %#v", got)
		}
		mustStayBad(t, r, 4)
	}
}

func TestNilReader(t *testing.T) {
	var r *Reader
	mustStayBad(t, r, 0)
}

func TestReadersAreApart(t *testing.T) {
	text := "ab"
	a, b := Read(text), Read(text)
	a.Byte()
	mustStand(t, b, 0, false, false)
	a.Word()
	mustStand(t, a, 1, true, false)
	mustStand(t, b, 0, false, false)
	if b.Raw(2) != text {
		t.Error("P8.2: a reader is changed by another one")
	}
}

// What stands behind the text in the same memory is no part of it.
func TestNothingBeyondIsSeen(t *testing.T) {
	whole := "\x80\x00ab\x00\x01\x02\x03"
	for n := range len(whole) + 1 {
		for s := range sorts {
			for at := range n + 1 {
				r, m := Read(whole[:n]), &model{text: whole[:n]}
				mustAgree(t, r, m, aRaw, at)
				mustAgree(t, r, m, s, n-at+1)
			}
		}
	}
}

func TestReadAsWritten(t *testing.T) {
	for seed := range int64(200) {
		random := rand.New(rand.NewSource(seed))
		w, want := Write(), ""
		var items []item
		for range random.Intn(400) {
			it := someItem(random)
			it.write(w)
			items = append(items, it)
			s, _ := it.bytes()
			want += s
		}
		mustTell(t, w, want, api.OK)
		text, _ := w.Bytes()
		r, at := Read(text), 0
		for _, it := range items {
			mustStand(t, r, at, false, false)
			if got := read(r, it.sort, 0); got != it {
				t.Fatalf("P8.3: %#v, want %#v, seed %d", got, it, seed)
			}
			s, _ := it.bytes()
			at += len(s)
		}
		mustStand(t, r, len(text), false, true)
		if t.Failed() {
			t.Fatalf("P8.3: seed %d", seed)
		}
	}
}

func someBytes(r *rand.Rand) string {
	var s []byte
	for range r.Intn(300) {
		switch r.Intn(4) {
		case 0:
			s = append(s, byte(r.Intn(256)))
		case 1:
			s = append(s, "\x00\x01\x3f\x40\x7f\x80\xc0\xff"[r.Intn(8)])
		default:
			part, _ := someItem(r).bytes()
			s = append(s, part...)
		}
	}
	return string(s[:r.Intn(len(s)+1)])
}

func TestAnyBytesAreRead(t *testing.T) {
	for seed := range int64(3000) {
		random := rand.New(rand.NewSource(seed))
		text := someBytes(random)
		r, m := Read(text), &model{text: text}
		mustStand(t, r, 0, false, text == "")
		for !m.bad && !t.Failed() {
			mustAgree(t, r, m, sort(random.Intn(int(sorts))), random.Intn(12))
		}
		mustStayBad(t, r, m.at)
		if t.Failed() {
			t.Fatalf("P8.4: seed %d", seed)
		}
	}
}

func TestCutOffAnywhere(t *testing.T) {
	for seed := range int64(20) {
		random := rand.New(rand.NewSource(seed))
		whole := ""
		var items []item
		for range 30 {
			it := someItem(random)
			s, _ := it.bytes()
			items, whole = append(items, it), whole+s
		}
		for n := range len(whole) {
			r, m := Read(whole[:n]), &model{text: whole[:n]}
			for _, it := range items {
				mustAgree(t, r, m, it.sort, 0)
			}
			if !r.Bad() || r.At() > n {
				t.Fatalf("P8.4: cut off at %d: At %d, Bad %v, seed %d", n, r.At(), r.Bad(), seed)
			}
		}
	}
}
