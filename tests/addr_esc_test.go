package tests

import (
	"slices"
	"strings"
	"testing"

	"loop.example/pedlar/impl"
)

func TestEscNormTold(t *testing.T) {
	for _, c := range []struct{ text, want string }{
		{"", ""},
		{"az09.-", "az09.-"},
		{"%61%7a%30%39%2e%2E%2d%2D", "az09..--"},
		{"AZ", "%41%5A"},
		{"%41%5a", "%41%5A"},
		{"%2f%2F/", "%2F%2F%2F"},
		{"%25", "%25"},
		{"%2561", "%2561"},
		{"_~ +@[`{", "%5F%7E%20%2B%40%5B%60%7B"},
		{"\x00\xff", "%00%FF"},
		{"\u00e4", "%C3%A4"},
		{"%c3\xa4", "%C3%A4"},
	} {
		if got, ok := impl.EscNorm(c.text); !ok || got != c.want {
			t.Errorf("EscNorm(%q) = %q, %v, not %q", c.text, got, ok, c.want)
		}
	}
}

func TestEscNormEachByte(t *testing.T) {
	for b := range 256 {
		raw := string([]byte{byte(b)})
		const figures, small = "0123456789ABCDEF", "0123456789abcdef"
		sign := "%" + string([]byte{figures[b/16], figures[b%16]})
		want := sign
		if standsForItself(byte(b)) {
			want = raw
		}
		for _, text := range []string{raw, sign, "%" + string([]byte{small[b/16], small[b%16]})} {
			if text == "%" {
				continue
			}
			if got, ok := impl.EscNorm(text); !ok || got != want {
				t.Errorf("EscNorm(%q) = %q, %v, not %q", text, got, ok, want)
			}
		}
	}
}

func TestEscNormLimit(t *testing.T) {
	for _, piece := range []string{"a", "~", "%61", "%7e", "\xff"} {
		met := strings.Repeat(piece, impl.AddrMax/len(piece))
		if got, ok := impl.EscNorm(met); !ok || got == "" {
			t.Errorf("EscNorm of %d bytes of %q is %q, %v", len(met), piece, got, ok)
		}
		if got, ok := impl.EscNorm(met + "a"); ok || got != "" {
			t.Errorf("EscNorm of %d bytes of %q is %q, %v", len(met)+1, piece, got, ok)
		}
	}
	if got, ok := impl.EscNorm(strings.Repeat("a", 1000)); ok || got != "" {
		t.Errorf("EscNorm of 1000 bytes is %q, %v", got, ok)
	}
}

func standsForItself(b byte) bool {
	return b >= 'a' && b <= 'z' || b >= '0' && b <= '9' || b == '.' || b == '-'
}

func TestP01EscNormOfWhatItWroteIsTheSame(t *testing.T) {
	for _, text := range escTexts() {
		once, ok := impl.EscNorm(text)
		if !ok || len(once) > impl.AddrMax {
			continue
		}
		if twice, ok := impl.EscNorm(once); !ok || twice != once {
			t.Errorf("EscNorm(%q) = %q, but of that %q, %v", text, once, twice, ok)
		}
	}
}

func TestP02EscNormWritesWhatStandsForItselfAndSigns(t *testing.T) {
	for _, text := range escTexts() {
		got, _ := impl.EscNorm(text)
		for rest := got; rest != ""; {
			if standsForItself(rest[0]) {
				rest = rest[1:]
				continue
			}
			if len(rest) < 3 || rest[0] != '%' || !greatFigure(rest[1]) || !greatFigure(rest[2]) {
				t.Errorf("EscNorm(%q) = %q, no sign at %q", text, got, rest)
				break
			}
			if standsForItself(worth(rest[1])*16 + worth(rest[2])) {
				t.Errorf("EscNorm(%q) = %q, a sign at %q that is not needed", text, got, rest)
			}
			rest = rest[3:]
		}
	}
}

func greatFigure(b byte) bool {
	return b >= '0' && b <= '9' || b >= 'A' && b <= 'F'
}

func worth(b byte) byte {
	if b >= 'a' {
		return b - 'a' + 10
	}
	if b >= 'A' {
		return b - 'A' + 10
	}
	return b - '0'
}

func TestP03EscNormOfTwoTextsIsThatOfBoth(t *testing.T) {
	texts := mix(escPieces, 2)
	for _, one := range texts {
		for _, two := range texts {
			a, okA := impl.EscNorm(one)
			b, okB := impl.EscNorm(two)
			if !okA || !okB {
				continue
			}
			if got, ok := impl.EscNorm(one + two); !ok || got != a+b {
				t.Errorf("EscNorm(%q) = %q, %v, not %q", one+two, got, ok, a+b)
			}
		}
	}
	half := strings.Repeat("~", impl.AddrMax/2)
	if got, ok := impl.EscNorm(half + half); !ok || got != strings.Repeat("%7E", impl.AddrMax) {
		t.Errorf("EscNorm of two halves is %q, %v", got, ok)
	}
}

// meant is the bytes that a text of whole signs means.
func meant(text string) []byte {
	var all []byte
	for i := 0; i < len(text); i++ {
		if text[i] == '%' && i+2 < len(text) {
			all = append(all, worth(text[i+1])*16+worth(text[i+2]))
			i += 2
			continue
		}
		all = append(all, text[i])
	}
	return all
}

func TestP04AsManyBytesAreMeantAsAhead(t *testing.T) {
	for _, text := range escTexts() {
		got, ok := impl.EscNorm(text)
		if ok && !slices.Equal(meant(got), meant(text)) {
			t.Errorf("EscNorm(%q) = %q means %q, not %q", text, got, meant(got), meant(text))
		}
	}
}

func TestP22ASignThatIsNotWholeIsNone(t *testing.T) {
	for _, text := range []string{"%", "%4", "%4g", "%g4", "%%", "%%41", "a%", "a%4", "%41%", "%4%41", "%-1", "%+1", "% 1", "%4\xff", "%G0", "%@0", "%:0", "%`0", "%/0", "%0"} {
		if got, ok := impl.EscNorm(text); ok || got != "" {
			t.Errorf("EscNorm(%q) = %q, %v", text, got, ok)
		}
		for _, raw := range []string{"//ab/" + text, "//ab/" + text + "/..", "//ab?" + text} {
			if a, ok := impl.AddrRead(raw); ok || !isNothing(a) {
				t.Errorf("AddrRead(%#v) = %#v, %v", raw, a, ok)
			}
		}
		for _, base := range someAddrs() {
			for _, ref := range []string{text, "/" + text, "?" + text, "//ab/" + text} {
				wantNoJoin(t, base, ref)
			}
		}
	}
	if got, ok := impl.EscNorm(""); !ok || got != "" {
		t.Errorf("EscNorm of nothing is %q, %v", got, ok)
	}
	if got := impl.PathClean(nil); len(got) != 0 {
		t.Errorf("PathClean of nothing is %q", got)
	}
	if a, ok := impl.AddrRead(""); ok || !isNothing(a) {
		t.Errorf("AddrRead of nothing is %#v, %v", a, ok)
	}
	if impl.AddrOk(impl.Addr{}) || impl.AddrText(impl.Addr{}) != "" || impl.AddrPath(impl.Addr{}) != "" {
		t.Error("nothing is an address")
	}
}
