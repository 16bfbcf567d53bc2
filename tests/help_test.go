package tests

import (
	"slices"
	"strings"
	"testing"

	"loop.example/pedlar/impl"
)

// mix is all texts of at most so many pieces.
func mix(pieces []string, most int) []string {
	all := []string{""}
	last := all
	for range most {
		var next []string
		for _, text := range last {
			for _, piece := range pieces {
				next = append(next, text+piece)
			}
		}
		all = append(all, next...)
		last = next
	}
	return all
}

// lists is all lists of at most so many of the given things.
func lists[T any](things []T, most int) [][]T {
	all := [][]T{nil}
	last := all
	for range most {
		var next [][]T
		for _, list := range last {
			for _, thing := range things {
				next = append(next, append(slices.Clone(list), thing))
			}
		}
		all = append(all, next...)
		last = next
	}
	return all
}

// escPieces are bytes of each kind, whole signs, and what may be part of one.
var escPieces = []string{"a", "f", "0", ".", "-", "A", "%61", "%2f", "%7E", "%2E", "%25", "%", "~", "/", "\x00", "\xff"}

// rawPieces are what addresses are written with, in right and in wrong ways.
var rawPieces = []string{"a", "B", "/", "..", ".", "?", "#", "%2e", "%2F", "%", "~"}

// escTexts is all texts that EscNorm is asked of here, limits among them.
func escTexts() []string {
	all := mix(escPieces, 3)
	for _, piece := range []string{"a", "~", "%61", "%7e", "\xff"} {
		for size := impl.AddrMax - 3; size <= impl.AddrMax+3; size++ {
			all = append(all, strings.Repeat(piece, size/len(piece))+strings.Repeat("b", size%len(piece)))
		}
	}
	for b := range 256 {
		all = append(all, string([]byte{byte(b)}), string([]byte{'%', '6', byte(b)}), string([]byte{'%', byte(b), '6'}))
	}
	return all
}

// okAddrs are ok addresses, written as values, not read.
func okAddrs() []impl.Addr {
	asks := []impl.Addr{{}, {Asks: true}, {Asks: true, Ask: "q"}, {Asks: true, Ask: "%3F"}, {Asks: true, Ask: ".."}}
	var all []impl.Addr
	for _, house := range []string{"a", "ab", "zzzzz"} {
		for _, parts := range lists([]string{"a", "b.-9", "%2F", "..."}, 3) {
			for _, ask := range asks {
				all = append(all, impl.Addr{House: house, Parts: parts, Asks: ask.Asks, Ask: ask.Ask})
			}
		}
	}
	full := []string{"a", "b", "c", "d", "e"}
	all = append(all, impl.Addr{House: "ab", Parts: full}, impl.Addr{House: "ab", Parts: full, Asks: true, Ask: "q"})
	return append(all, impl.Addr{House: "ab", Parts: []string{strings.Repeat("x", impl.AddrMax-5)}})
}

// someAddrs are fewer of these, one of each shape.
func someAddrs() []impl.Addr {
	return []impl.Addr{
		{House: "a"},
		{House: "ab", Asks: true},
		{House: "ab", Parts: []string{"x"}, Asks: true, Ask: "q"},
		{House: "ab", Parts: []string{"x", "%2F"}},
		{House: "abcde", Parts: []string{"x", "y", "...", "u", "v"}, Asks: true, Ask: "%3F"},
	}
}

// rawAddrs is texts of addresses, right and wrong.
func rawAddrs() []string {
	var all []string
	for _, head := range []string{"//ab", "//A", "//ab/x/y"} {
		for _, tail := range mix(rawPieces, 4) {
			all = append(all, head+tail)
		}
	}
	return all
}

func sameAddr(a, b impl.Addr) bool {
	return a.House == b.House && slices.Equal(a.Parts, b.Parts) && a.Asks == b.Asks && a.Ask == b.Ask
}

// isNothing is what must stand beside a false.
func isNothing(a impl.Addr) bool {
	return sameAddr(a, impl.Addr{})
}

// read is an address that must be one.
func read(t *testing.T, raw string) impl.Addr {
	t.Helper()
	a, ok := impl.AddrRead(raw)
	if !ok {
		t.Fatalf("AddrRead(%q) is false", raw)
	}
	return a
}

// wantSameRead says that two texts must be read as the same, or neither.
func wantSameRead(t *testing.T, one, two string) {
	t.Helper()
	a, okA := impl.AddrRead(one)
	b, okB := impl.AddrRead(two)
	if okA != okB || !sameAddr(a, b) {
		t.Errorf("AddrRead(%#v) = %#v, %v, but AddrRead(%#v) = %#v, %v", one, a, okA, two, b, okB)
	}
}

// wantJoin says where one must come to.
func wantJoin(t *testing.T, base impl.Addr, ref string, want impl.Addr) {
	t.Helper()
	got, ok := impl.AddrJoin(base, ref)
	if !ok || !sameAddr(got, want) {
		t.Errorf("AddrJoin(%#v, %#v) = %#v, %v, not %#v", base, ref, got, ok, want)
	}
}

// wantNoJoin says that one must not come anywhere.
func wantNoJoin(t *testing.T, base impl.Addr, ref string) {
	t.Helper()
	if got, ok := impl.AddrJoin(base, ref); ok || !isNothing(got) {
		t.Errorf("AddrJoin(%#v, %#v) = %#v, %v, not nothing", base, ref, got, ok)
	}
}
