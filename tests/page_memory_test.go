package tests

import (
	"slices"
	"testing"

	"loop.example/pedlar/impl"
)

func TestPagesLeaveWhatIsGiven(t *testing.T) {
	for n := range impl.AddrParts + 1 {
		for _, text := range mix(markPieces, 2) {
			parts, all := withRoom([]string{"p", "q", "r", "s", "t"}[:n]...)
			before := slices.Clone(all)
			spoil(impl.PageAddrs(impl.Addr{House: "ab", Parts: parts}, text))
			if !slices.Equal(all, before) {
				t.Errorf("PageAddrs of %q by %q writes into it: %q", before, text, all)
			}
		}
	}
}

func TestNothingIsKeptOfPages(t *testing.T) {
	at := read(t, "//ab/x/y")
	for _, text := range somePages() {
		links, addrs := slices.Clone(impl.PageLinks(text)), slices.Clone(impl.PageAddrs(at, text))
		base, told := impl.PageBase(text)
		spoil(impl.PageLinks(text))
		spoil(impl.PageAddrs(at, text))
		wantLinks(t, text, links)
		wantAddrs(t, at, text, addrs)
		if again, ok := impl.PageBase(text); ok != told || again != base {
			t.Errorf("PageBase(%q) is %q, %v, then %q, %v", text, base, told, again, ok)
		}
	}
}
