package tests

import (
	"slices"
	"strings"
	"testing"

	"loop.example/pedlar/impl"
)

func TestAddrJoinTold(t *testing.T) {
	for _, c := range []struct{ base, ref, want string }{
		{"//ab", "", "//ab/"},
		{"//ab", "c", "//ab/c"},
		{"//ab", "..", "//ab/"},
		{"//ab", "../c", "//ab/c"},
		{"//ab?q", "c", "//ab/c"},
		{"//ab?q", ".", "//ab/"},
		{"//ab?q", "/", "//ab/"},
		{"//ab?q", "?", "//ab/?"},
		{"//ab/a", "c", "//ab/c"},
		{"//ab/a/b", "c?z", "//ab/a/c?z"},
		{"//ab/a/b", "c/d", "//ab/a/c/d"},
		{"//ab/a/b", "./c/", "//ab/a/c"},
		{"//ab/a/b", "../..", "//ab/"},
		{"//ab/a/b", "../../../../c", "//ab/c"},
		{"//ab/a/b", "%2e%2e/c", "//ab/c"},
		{"//ab/a/b", "%2E", "//ab/a"},
		{"//ab/a/b", "%2fc", "//ab/a/%2Fc"},
		{"//ab/a/b", "/../c", "//ab/c"},
		{"//ab/a/b", "/c?z/..", "//ab/c?z%2F.."},
		{"//ab/a/b", "?z#y", "//ab/a/b?z"},
		{"//ab/a/b", "?/../c", "//ab/a/b?%2F..%2Fc"},
		{"//ab/a/b", "//CD/x/..?y", "//cd/?y"},
		{"//ab/a/b", "//c", "//c/"},
		{"//ab/a/b", "c//d", "//ab/a/c/d"},
		{"//ab/a/b", "/c//d", "//ab/c/d"},
		{"//ab/a/b", "C", "//ab/a/%43"},
		{"//ab/a/b", ".//c", "//ab/a/c"},
		{"//ab/a/b", "/#//x", "//ab/"},
		{"//ab/a/b/c/d/e", "f", "//ab/a/b/c/d/f"},
		{"//ab/a/b/c/d/e", "f/g/..", "//ab/a/b/c/d/f"},
	} {
		wantJoin(t, read(t, c.base), c.ref, read(t, c.want))
		if got, _ := impl.AddrJoin(read(t, c.base), c.ref); impl.AddrText(got) != c.want {
			t.Errorf("AddrJoin(%q, %q) is %q, not %q", c.base, c.ref, impl.AddrText(got), c.want)
		}
	}
}

func TestAddrJoinWrong(t *testing.T) {
	base := read(t, "//ab/a/b/c/d/e?q")
	for _, ref := range []string{
		"//", "///", "///c", "//?", "//#", "//a1", "//abcdef", "//ab/%",
		"%", "c%4", "%zz/..", "/%", "?%", "f/g", "/a/b/c/d/e/f",
		"x/" + xs(3) + "/y",
	} {
		wantNoJoin(t, base, ref)
	}
}

func TestAddrJoinLimit(t *testing.T) {
	base := read(t, "//ab/x")
	for _, c := range []struct {
		ref  string
		want bool
	}{
		{xs(impl.AddrMax - 5), true},
		{xs(impl.AddrMax - 4), false},
		{"/" + xs(impl.AddrMax-5), true},
		{"/" + xs(impl.AddrMax-4), false},
		{"?" + xs(impl.AddrMax-7), true},
		{"?" + xs(impl.AddrMax-6), false},
		{"//ab/" + xs(impl.AddrMax-5), true},
		{"//ab/" + xs(impl.AddrMax-4), false},
		{strings.Repeat("/", impl.AddrMax-1), false},
		{"." + strings.Repeat("/", impl.AddrMax-1), true},
		{"." + strings.Repeat("/", impl.AddrMax), false},
		{"#" + xs(impl.AddrMax-1), true},
		{"#" + xs(impl.AddrMax), false},
		{"c#" + xs(impl.AddrMax-2), true},
		{"c#" + xs(impl.AddrMax-1), false},
		{"//ab#" + xs(impl.AddrMax-5), true},
		{"//ab#" + xs(impl.AddrMax-4), false},
		{"a/b/c/d/e", true},
		{"a/b/c/d/e/f", false},
	} {
		got, ok := impl.AddrJoin(base, c.ref)
		if ok != c.want || !ok && !isNothing(got) {
			t.Errorf("AddrJoin(%#v, %#v) = %#v, %v", base, c.ref, got, ok)
		}
	}
}

func TestP16AddrJoinOfAWholeAddressIsThat(t *testing.T) {
	for _, base := range someAddrs() {
		for _, raw := range rawAddrs() {
			want, ok := impl.AddrRead(raw)
			if got, gotOk := impl.AddrJoin(base, raw); gotOk != ok || !sameAddr(got, want) {
				t.Errorf("AddrJoin(%#v, %#v) = %#v, %v, not %#v, %v", base, raw, got, gotOk, want, ok)
			}
		}
	}
}

func TestP17AddrJoinOfNothingACrossAndItsOwnWayIsTheBase(t *testing.T) {
	for _, base := range okAddrs() {
		for _, ref := range []string{"", "#", "#x", "##", "#/..", "#%", impl.AddrPath(base), impl.AddrText(base)} {
			wantJoin(t, base, ref, base)
		}
	}
}

func TestP18AddrJoinIsOkAndTheHouseStays(t *testing.T) {
	for _, base := range someAddrs() {
		for _, ref := range mix(rawPieces, 4) {
			got, ok := impl.AddrJoin(base, ref)
			if !ok {
				if !isNothing(got) {
					t.Errorf("AddrJoin(%#v, %#v) = %#v beside false", base, ref, got)
				}
				continue
			}
			if !impl.AddrOk(got) {
				t.Errorf("AddrJoin(%#v, %#v) = %#v is not ok", base, ref, got)
			}
			if !strings.HasPrefix(ref, "//") && got.House != base.House {
				t.Errorf("AddrJoin(%#v, %#v) = %#v is of another house", base, ref, got)
			}
		}
	}
}

// above is parts without so many of the last.
func above(parts []string, steps int) []string {
	return parts[:max(0, len(parts)-steps)]
}

func TestP19ADotTwoDotsAndAStroke(t *testing.T) {
	for _, base := range okAddrs() {
		for _, dot := range []string{".", "./", "%2e", "././"} {
			wantJoin(t, base, dot, impl.Addr{House: base.House, Parts: above(base.Parts, 1)})
		}
		for _, dots := range []string{"..", "../", "%2E.", "./.."} {
			wantJoin(t, base, dots, impl.Addr{House: base.House, Parts: above(base.Parts, 2)})
		}
		wantJoin(t, base, "../..", impl.Addr{House: base.House, Parts: above(base.Parts, 3)})
		for _, door := range []string{"/", "/.", "/..", "/../..", "../../../../../.."} {
			wantJoin(t, base, door, impl.Addr{House: base.House})
		}
	}
}

func TestP20WhatIsAskedAloneLeavesAllParts(t *testing.T) {
	for _, base := range okAddrs() {
		if len(impl.AddrText(base)) > impl.AddrMax-10 {
			continue
		}
		for _, c := range []struct{ ref, ask string }{{"?", ""}, {"?z", "z"}, {"??", "%3F"}, {"?/..", "%2F.."}, {"?%7a#y", "z"}} {
			wantJoin(t, base, c.ref, impl.Addr{House: base.House, Parts: base.Parts, Asks: true, Ask: c.ask})
		}
	}
}

func TestP21APartLeadsBesideTheLastOne(t *testing.T) {
	for _, base := range okAddrs() {
		for _, part := range []string{"c", "...", "%2F"} {
			parts := append(slices.Clone(above(base.Parts, 1)), part)
			want := impl.Addr{House: base.House, Parts: parts}
			for _, ref := range []string{part, "./" + part, part + "/", part + "/.", "x/../" + part, part + "/x/..", part + "#y"} {
				wantJoin(t, base, ref, want)
			}
			wantJoin(t, base, part+"?z", impl.Addr{House: base.House, Parts: parts, Asks: true, Ask: "z"})
			wantJoin(t, base, "/"+strings.Join(parts, "/"), want)
		}
	}
}
