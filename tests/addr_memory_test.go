package tests

import (
	"slices"
	"testing"

	"loop.example/pedlar/impl"
)

// withRoom is a list with room behind its end that must stay as it is.
func withRoom(texts ...string) ([]string, []string) {
	all := append(slices.Clone(texts), "room", "room", "room")
	return all[:len(texts)], all
}

// spoil writes into all of a list, its spare room too.
func spoil(list []string) {
	all := list[:cap(list)]
	for i := range all {
		all[i] = "spoilt"
	}
}

func TestPathCleanIsNewMemory(t *testing.T) {
	for _, texts := range lists([]string{"a", "..", ""}, 4) {
		parts, all := withRoom(texts...)
		before := slices.Clone(all)
		spoil(impl.PathClean(parts))
		if !slices.Equal(all, before) {
			t.Errorf("PathClean of %q shares with it: %q", before, all)
		}
	}
}

func TestAddrJoinIsNewMemory(t *testing.T) {
	for n := range impl.AddrParts + 1 {
		for _, ref := range []string{"", "#", "c", ".", "..", "/", "/c", "?", "?z", "//cd/e", "c/d", "%", "a/b/c/d/e/f"} {
			parts, all := withRoom([]string{"p", "q", "r", "s", "t"}[:n]...)
			before := slices.Clone(all)
			got, _ := impl.AddrJoin(impl.Addr{House: "ab", Parts: parts}, ref)
			spoil(got.Parts)
			if !slices.Equal(all, before) {
				t.Errorf("AddrJoin of %q by %q writes into it: %q", before, ref, all)
			}
		}
	}
}

func TestNothingIsKept(t *testing.T) {
	first := read(t, "//ab/x/y")
	spoil(first.Parts)
	if got := impl.AddrText(read(t, "//ab/x/y")); got != "//ab/x/y" {
		t.Errorf("it is read as %q then", got)
	}
}
