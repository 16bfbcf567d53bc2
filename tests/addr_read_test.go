package tests

import (
	"strings"
	"testing"

	"loop.example/pedlar/impl"
)

func TestAddrReadTold(t *testing.T) {
	for _, c := range []struct{ raw, want string }{
		{"//a", "//a/"},
		{"//a/", "//a/"},
		{"//ABCDE", "//abcde/"},
		{"//aZ?", "//az/?"},
		{"//ab#", "//ab/"},
		{"//ab#/x?y#z", "//ab/"},
		{"//ab?#x", "//ab/?"},
		{"//ab?x/../y", "//ab/?x%2F..%2Fy"},
		{"//ab?x?y", "//ab/?x%3Fy"},
		{"//ab/A?A", "//ab/%41?%41"},
		{"//ab/%61/%2F", "//ab/a/%2F"},
		{"//ab/x/%2e%2E/y", "//ab/y"},
		{"//ab/x/%2e/y", "//ab/x/y"},
		{"//ab/x/.%2e", "//ab/"},
		{"//ab/..", "//ab/"},
		{"//ab/../../x", "//ab/x"},
		{"//ab/x/../../../y", "//ab/y"},
		{"//ab/x/..?q", "//ab/?q"},
		{"//ab/...", "//ab/..."},
		{"//ab////x////y//", "//ab/x/y"},
		{"//ab/a/b/c/d/e", "//ab/a/b/c/d/e"},
		{"//ab/a/b/c/d/e/f/..", "//ab/a/b/c/d/e"},
		{"//ab/\xff", "//ab/%FF"},
		{"//ab/%23", "//ab/%23"},
		{"//ab/%3f?%3F", "//ab/%3F?%3F"},
	} {
		if got := impl.AddrText(read(t, c.raw)); got != c.want {
			t.Errorf("AddrRead(%q) is %q, not %q", c.raw, got, c.want)
		}
	}
}

func TestAddrReadWrong(t *testing.T) {
	for _, raw := range []string{
		"", "#", "/", "//", "///", "////a", "//?", "//#ab", "//?ab", "/#/ab", "#//ab", "/ab", "ab", "ab/a", "a//b/c", " //ab", "/ /ab",
		"//abcdef", "//ABCDEF/a", "//a1", "//a.b", "//a-b/", "//%61", "//a%", "//a /", "//a\x00", "//\u212a", "//\xe4", "//@", "//[", "//`", "//{",
		"//ab/a/b/c/d/e/f", "//ab/a/b/c/d/e/f?q", "//ab/%", "//ab/x%4", "//ab/%4/..", "//ab?%", "//ab?%zz", "//ab/%#41",
	} {
		if a, ok := impl.AddrRead(raw); ok || !isNothing(a) {
			t.Errorf("AddrRead(%#v) = %#v, %v", raw, a, ok)
		}
	}
}

func TestAddrReadLimit(t *testing.T) {
	for _, c := range []struct {
		raw  string
		want bool
	}{
		{"//ab/" + xs(impl.AddrMax-5), true},
		{"//ab/" + xs(impl.AddrMax-4), false},
		{"//ab/" + xs(impl.AddrMax-6) + "/", true},
		{"//ab/" + xs(impl.AddrMax-5) + "/", false},
		{"//ab/" + xs(impl.AddrMax-6) + "#", true},
		{"//ab/" + xs(impl.AddrMax-5) + "#", false},
		{"//ab/#" + xs(impl.AddrMax-6), true},
		{"//ab/#" + xs(impl.AddrMax-5), false},
		{"//ab/" + strings.Repeat("./", 27), true},
		{"//ab/" + strings.Repeat("./", 28), false},
		{"//ab?" + xs(impl.AddrMax-6), true},
		{"//ab?" + xs(impl.AddrMax-5), false},
		{"//ab" + strings.Repeat("/", impl.AddrMax-4), true},
		{"//ab" + strings.Repeat("/", impl.AddrMax-3), false},
		{"//ab/" + strings.Repeat("~", 18) + "x", true},
		{"//ab/" + strings.Repeat("~", 18) + "xx", false},
		{"//ab/" + strings.Repeat("~", 19), false},
		{"//ab/a/b/c/d/e", true},
		{"//ab/a/b/c/d/e/f", false},
		{"//abcde", true},
		{"//abcdef", false},
		{"//ab/" + xs(1000), false},
	} {
		if a, ok := impl.AddrRead(c.raw); ok != c.want || !ok && !isNothing(a) {
			t.Errorf("AddrRead(%#v), of %d bytes, is %#v, %v", c.raw, len(c.raw), a, ok)
		}
	}
}

func TestP09WhatAddrReadReadsIsOkAndReadAgain(t *testing.T) {
	some := 0
	for _, raw := range rawAddrs() {
		a, ok := impl.AddrRead(raw)
		if !ok {
			if !isNothing(a) {
				t.Errorf("AddrRead(%#v) = %#v beside false", raw, a)
			}
			continue
		}
		some++
		text := impl.AddrText(a)
		if !impl.AddrOk(a) || text == "" {
			t.Errorf("AddrRead(%#v) = %#v is not ok", raw, a)
		}
		if again, ok := impl.AddrRead(text); !ok || !sameAddr(a, again) || impl.AddrText(again) != text {
			t.Errorf("AddrRead(%#v) = %#v, but from %#v %#v, %v", raw, a, text, again, ok)
		}
	}
	if some == 0 {
		t.Error("none was read")
	}
}

func TestP13GreatLettersOfAHouseChangeNothing(t *testing.T) {
	for _, tail := range mix(rawPieces, 3) {
		if tail != "" && !strings.ContainsAny(tail[:1], "/?#") {
			continue
		}
		for _, house := range []string{"AZ", "aZ", "Az"} {
			wantSameRead(t, "//az"+tail, "//"+house+tail)
		}
	}
	for letter := byte('a'); letter <= 'z'; letter++ {
		wantSameRead(t, "//"+string(letter), "//"+strings.ToUpper(string(letter)))
		if a := read(t, "//"+strings.ToUpper(string(letter))); a.House != string(letter) {
			t.Errorf("the house is %q, not %q", a.House, letter)
		}
	}
	if sameAddr(read(t, "//ab/x"), read(t, "//ab/X")) || sameAddr(read(t, "//ab?x"), read(t, "//ab?X")) {
		t.Error("great letters of a way are not small ones")
	}
}

func TestP14WhatIsBehindACrossChangesNothing(t *testing.T) {
	for _, raw := range rawAddrs() {
		for _, behind := range []string{"", "x", "/..", "?q", "#", "%", "\xff"} {
			wantSameRead(t, raw, raw+"#"+behind)
		}
	}
	for _, base := range someAddrs() {
		for _, ref := range mix(rawPieces, 3) {
			want, ok := impl.AddrJoin(base, ref)
			for _, behind := range []string{"", "x", "/..", "?q", "%"} {
				if got, gotOk := impl.AddrJoin(base, ref+"#"+behind); gotOk != ok || !sameAddr(got, want) {
					t.Errorf("AddrJoin(%#v, %#v) = %#v, %v, not %#v, %v", base, ref+"#"+behind, got, gotOk, want, ok)
				}
			}
		}
	}
	read(t, "//ab/#%")
}

func TestP15AStrokeAndADotAtTheEndChangeNothing(t *testing.T) {
	for _, raw := range rawAddrs() {
		if strings.ContainsAny(raw, "?#") {
			continue
		}
		for _, end := range []string{"/", "/.", "/./", "//", "/%2e"} {
			wantSameRead(t, raw, raw+end)
		}
	}
	if got := impl.AddrText(read(t, "//ab/a/.")); got != "//ab/a" {
		t.Errorf("it is %q", got)
	}
}
