package tests

import (
	"strings"
	"testing"

	"loop.example/pedlar/impl"
)

// patternPieces are what patterns are made of, the end among them where it may stand, and where not.
var patternPieces = []string{"a", "b", "/", "*", "?", "$"}

// okPatterns are all ok patterns of such pieces, told without the program, and some at the limit.
func okPatterns() []string {
	var all []string
	for _, tail := range mix(patternPieces, 4) {
		if at := strings.Index(tail, "$"); at < 0 || at == len(tail)-1 {
			all = append(all, "/"+tail)
		}
	}
	full := "/" + strings.Repeat("a", impl.RuleMax-1)
	stars := "/" + strings.Repeat("*a", impl.RuleMax/2-1)
	return append(all, full, full[:impl.RuleMax-1]+"$", full[:impl.RuleMax-1]+"*", stars+"*", stars+"$")
}

// ways are texts that patterns are held against: ways, what looks like a pattern, and what is none.
func ways() []string {
	all := []string{"", "a", "*", "$", "\x00", "\xff"}
	for _, tail := range mix([]string{"a", "b", "/", "?"}, 4) {
		all = append(all, "/"+tail)
	}
	for _, tail := range []string{"*", "$", "a*", "a$", "*a", "\xff", "a\xffb", "%2F", "A", "\n", " "} {
		all = append(all, "/"+tail)
	}
	longest := "/" + strings.Repeat("a", impl.AddrMax-1)
	return append(all, longest, longest[:impl.AddrMax-1]+"b", "/"+strings.Repeat("ab", impl.AddrMax/2-1))
}

// fewWays are some of these.
func fewWays() []string {
	all := []string{"", "a", "/*", "/$", "/a\xff", "/" + strings.Repeat("a", impl.AddrMax-1)}
	for _, tail := range mix([]string{"a", "b", "/"}, 3) {
		all = append(all, "/"+tail)
	}
	return all
}

// has tells byte by byte whether a text is of a pattern; a star is none, or one byte and a star again.
func has(p, path string) bool {
	switch {
	case p == "":
		return true
	case p == "$":
		return path == ""
	case p[0] == '*':
		return has(p[1:], path) || path != "" && has(p, path[1:])
	}
	return path != "" && p[0] == path[0] && has(p[1:], path[1:])
}

func TestRuleOkTold(t *testing.T) {
	for _, p := range []string{"/", "//", "/*", "/**", "/$", "/*$", "/a$", "/?", "/%", "/%2F", "/%zz", "/a.b-9?q", "/ABCDEF", "/0123456789", "/a/../b", "/" + xs(impl.RuleMax-1), "/" + xs(impl.RuleMax-2) + "$"} {
		if !impl.RuleOk(p) {
			t.Errorf("RuleOk(%q) is false", p)
		}
	}
	for _, p := range okPatterns() {
		if !impl.RuleOk(p) {
			t.Errorf("RuleOk(%q) is false", p)
		}
	}
}

// wrongPatterns are texts that are no pattern, for one reason each.
var wrongPatterns = []string{"", "a", "*", "$", "a/", "*/", "$/", " /", "/$$", "/$a", "/a$b", "/a$/", "/$*", "/a b", "/a ", "/G", "/Z", "/a\n", "/a#", "/_", "/~", "/\x00", "/\xff", "/\xe4", "/" + xs(impl.RuleMax), "/" + xs(impl.RuleMax-1) + "$", "/" + xs(1000)}

func TestP40WhatIsNoPatternHasNothing(t *testing.T) {
	for _, p := range wrongPatterns {
		if impl.RuleOk(p) {
			t.Errorf("RuleOk(%q) is true", p)
		}
		for _, path := range append(ways(), p, strings.TrimSuffix(p, "$")) {
			if impl.RuleHas(p, path) {
				t.Errorf("RuleHas(%q, %q) is true", p, path)
			}
		}
	}
	for _, p := range append(okPatterns(), wrongPatterns...) {
		if impl.RuleHas(p, "") {
			t.Errorf("RuleHas(%q, nothing) is true", p)
		}
	}
}

func TestRuleOkEachByte(t *testing.T) {
	for b := range 256 {
		sign := string([]byte{byte(b)})
		may := standsForItself(byte(b)) || strings.Contains("/*?%ABCDEF", sign)
		for text, want := range map[string]bool{
			sign:             b == '/',
			sign + "/":       b == '/',
			"/" + sign:       may || b == '$',
			"/" + sign + "a": may,
			"/" + sign + "$": may,
			"/a" + sign:      may || b == '$',
		} {
			if impl.RuleOk(text) != want {
				t.Errorf("RuleOk(%q) is %v", text, !want)
			}
		}
	}
}

func TestRuleHasTold(t *testing.T) {
	for _, c := range []struct {
		p, path string
		want    bool
	}{
		{"/", "/", true},
		{"/", "a", false},
		{"/$", "/", true},
		{"/$", "/a", false},
		{"/a", "/a", true},
		{"/a", "/ab", true},
		{"/a", "/b", false},
		{"/ab", "/a", false},
		{"/a?q", "/a?qr", true},
		{"/a?q", "/abq", false},
		{"/%2F", "/%2Fa", true},
		{"/%2F", "//a", false},
		{"/*a$", "/aba", true},
		{"/*a$", "/ab", false},
		{"/a*a$", "/a", false},
		{"/a*a$", "/aa", true},
		{"/*ab*ab$", "/ab", false},
		{"/*ab*ab$", "/abab", true},
		{"/*ab*ba$", "/aba", false},
		{"/*ab*ba$", "/abba", true},
		{"/a**b", "/ab", true},
		{"/*$", "/a\xff\x00$", true},
		{"/*/*/", "/a/b/", true},
		{"/*/*/", "/a/b", false},
		{"/A", "/a", false},
	} {
		if impl.RuleHas(c.p, c.path) != c.want {
			t.Errorf("RuleHas(%q, %q) is %v", c.p, c.path, !c.want)
		}
	}
}

func TestRuleHasLimit(t *testing.T) {
	for size := impl.AddrMax - 1; size <= impl.AddrMax+2; size++ {
		path := "/" + xs(size-1)
		for _, p := range []string{"/", "/*", "/*$", "/x", "/*x$"} {
			if impl.RuleHas(p, path) != (size <= impl.AddrMax) {
				t.Errorf("RuleHas(%q, %d bytes) is %v", p, size, impl.RuleHas(p, path))
			}
		}
	}
	if impl.RuleHas("/", "/"+xs(100000)) {
		t.Error("too long a way is of a pattern")
	}
}

func TestP24RuleHasIsToldByteByByte(t *testing.T) {
	for _, p := range okPatterns() {
		for _, path := range ways() {
			if want := has(p, path); impl.RuleHas(p, path) != want {
				t.Errorf("RuleHas(%q, %q) is %v", p, path, !want)
			}
		}
	}
}

func TestP25WhatGoesOnFromAWayOfAPatternIsOfIt(t *testing.T) {
	for _, p := range okPatterns() {
		if strings.HasSuffix(p, "$") {
			continue
		}
		for _, path := range fewWays() {
			for _, more := range []string{"a", "/b", "$", "*", "\xff"} {
				if len(path+more) <= impl.AddrMax && impl.RuleHas(p, path) && !impl.RuleHas(p, path+more) {
					t.Errorf("%q is of %q, but not %q", path, p, path+more)
				}
			}
		}
	}
}

func TestP26AStarAtTheEndChangesNothing(t *testing.T) {
	for _, path := range ways() {
		for _, p := range okPatterns() {
			if len(p) < impl.RuleMax && !strings.HasSuffix(p, "$") && impl.RuleHas(p, path) != impl.RuleHas(p+"*", path) {
				t.Errorf("%q is of one of %q and %q alone", path, p, p+"*")
			}
		}
		if way := strings.HasPrefix(path, "/"); impl.RuleHas("/*", path) != way {
			t.Errorf("RuleHas(/*, %q) is %v", path, !way)
		}
	}
}

func TestP27WithItsEndAPatternHasNothingMore(t *testing.T) {
	fewer := 0
	for _, p := range okPatterns() {
		if len(p) == impl.RuleMax || strings.HasSuffix(p, "$") {
			continue
		}
		for _, path := range ways() {
			with, without := impl.RuleHas(p+"$", path), impl.RuleHas(p, path)
			if with && !without {
				t.Errorf("%q is of %q, but not of %q", path, p+"$", p)
			}
			if without && !with {
				fewer++
			}
		}
	}
	if fewer == 0 {
		t.Error("an end takes nothing away")
	}
}

func TestP28AWayIsOfItself(t *testing.T) {
	seen := 0
	for _, a := range okAddrs() {
		path := impl.AddrPath(a)
		if len(path) >= impl.RuleMax {
			continue
		}
		seen++
		if !impl.RuleHas(path, path) || !impl.RuleHas(path+"$", path) {
			t.Errorf("%q is not of itself", path)
		}
		for _, more := range []string{"a", "/", "?", "$", path} {
			if impl.RuleHas(path+"$", path+more) {
				t.Errorf("%q is of %q", path+more, path+"$")
			}
		}
	}
	if longest := "/" + xs(impl.RuleMax-1); seen == 0 || !impl.RuleHas(longest, longest) {
		t.Errorf("%d ways, and the longest", seen)
	}
}

func TestP29EachBeginningOfAPatternIsOne(t *testing.T) {
	for _, p := range okPatterns() {
		for size := 1; size <= len(p); size++ {
			if !impl.RuleOk(p[:size]) {
				t.Errorf("%q is a pattern, but not %q", p, p[:size])
			}
		}
	}
}
