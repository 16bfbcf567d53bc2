package tests

import (
	"slices"
	"testing"

	"loop.example/pedlar/impl"
)

func TestWorldFromTold(t *testing.T) {
	w := toldWorld()
	for _, c := range []struct {
		addr string
		want []string
	}{
		{"//ab/", []string{"//ab/a", "//ab/b", "//cd/x", "//ab/c", "//ab/"}},
		{"//ab/a", []string{"//ab/c"}},
		{"//ab/b", []string{"//ab/d"}},
		{"//ab/c", []string{"//ab/", "//ab/a/b", "//ab/e"}},
		{"//ab/e", []string{"//ab/e"}},
		{"//cd/x", nil},
		{"//ab/a/b", nil},
		{"//ab/notice", nil},
		{"//cd/notice", []string{"//ab/notice"}},
		{"//ef/notice", nil},
		{"//ef/", []string{"//ab/"}},
		{"//ab/d", nil},
		{"//zz/", nil},
	} {
		wantFrom(t, w, c.addr, c.want)
	}
}

func TestWorldFromWhatFailsSoOften(t *testing.T) {
	for times := range mostFails + 1 {
		var page, lead []string
		if times < impl.TripTries {
			page, lead = []string{"//ab/a", "//ab/"}, []string{"//ab/b"}
		}
		wantFrom(t, []impl.Page{{Addr: "//ab/", Text: "<a><>", Fails: times}}, "//ab/", page)
		wantFrom(t, []impl.Page{{Addr: "//ab/b", Lead: "//ab/b", Fails: times}}, "//ab/b", lead)
	}
}

func TestWorldFromLimit(t *testing.T) {
	full := "//ab/" + xs(impl.AddrMax-5)
	wantFrom(t, []impl.Page{{Addr: full, Text: fullPage(impl.PageMax)}}, full, []string{"//ab/d/a", "//ab/d/b"})
	wantFrom(t, []impl.Page{{Addr: full, Text: fullPage(impl.PageMax + 1)}}, full, nil)
	wantFrom(t, []impl.Page{{Addr: full, Lead: full}}, full, []string{full})
	wantFrom(t, fullWorld(impl.WorldMax), "//ab/a", []string{"//ab/b"})
	wantFrom(t, fullWorld(impl.WorldMax+1), "//ab/a", nil)
}

func TestWorldFromOfWrongInputs(t *testing.T) {
	for _, w := range okWorlds() {
		for _, text := range notAddresses {
			wantFrom(t, w, text, nil)
		}
	}
	for _, w := range wrongWorlds() {
		for _, addr := range append(lookups(w), notAddresses...) {
			wantFrom(t, w, addr, nil)
		}
	}
}

func TestP55WorldFromIsPageAddrsOfWhatStandsThereOrTheLead(t *testing.T) {
	pages, leads, failed := 0, 0, 0
	for _, w := range okWorlds() {
		for _, addr := range lookups(w) {
			page, stands := pageAt(w, addr)
			var want []string
			switch {
			case !stands:
			case fails(w, addr):
				failed++
			case page.Lead != "":
				want = []string{page.Lead}
				leads++
			default:
				want = impl.PageAddrs(read(t, addr), page.Text)
				pages++
			}
			wantFrom(t, w, addr, want)
		}
	}
	if min(pages, leads, failed) < 100 {
		t.Errorf("%d pages, %d leads, %d fail", pages, leads, failed)
	}
}

func TestP56WorldFromIsOfAddressesEachOnce(t *testing.T) {
	most := 0
	for _, w := range append(okWorlds(), []impl.Page{{Addr: "//ab/a", Text: manyLinks()}}) {
		for _, addr := range lookups(w) {
			got := impl.WorldFrom(w, addr)
			for i, to := range got {
				if !isAddress(to) || slices.Contains(got[:i], to) {
					t.Errorf("WorldFrom(%v, %q) is %q", w, addr, got)
				}
			}
			most = max(most, len(got))
		}
	}
	if most < 26 {
		t.Errorf("one comes to at most %d addresses", most)
	}
}
