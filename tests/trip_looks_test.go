package tests

import (
	"slices"
	"testing"

	"loop.example/pedlar/impl"
)

// looked is a trip that has made such calls, at one time each.
func looked(looks ...impl.Look) impl.Trip {
	for i := range looks {
		looks[i].Time = i
	}
	return impl.Trip{Name: "rover", Now: len(looks), Looks: looks}
}

// wantLooked says what must have been looked at.
func wantLooked(t *testing.T, trip impl.Trip, want ...string) {
	t.Helper()
	if got := impl.TripLooked(trip); !slices.Equal(got, want) {
		t.Errorf("TripLooked(%v) = %q, not %q", trip, got, want)
	}
}

func TestTripLookedTold(t *testing.T) {
	none, page, lead, fail := impl.GetNone, impl.GetPage, impl.GetLead, impl.GetFail
	at := func(addr string, kind int) impl.Look { return impl.Look{Addr: addr, Kind: kind} }
	wantLooked(t, looked())
	wantLooked(t, toldTrip(), "//ab/")
	wantLooked(t, looked(at("//ab/a", page), at("//ab/b", none), at("//ab/c", lead), at("//ab/d", fail)), "//ab/a", "//ab/b", "//ab/c")
	wantLooked(t, looked(at("//ab/a", page), at("//ab/a", fail), at("//ab/b", fail), at("//ab/a", none), at("//ab/b", lead)), "//ab/a", "//ab/b")
	for _, kind := range []int{none, page, lead} {
		notice := at("//ab/notice", kind)
		failed := at("//ab/notice", fail)
		wantLooked(t, looked(notice))
		wantLooked(t, looked(notice, notice), "//ab/notice")
		wantLooked(t, looked(notice, failed, notice), "//ab/notice")
		wantLooked(t, looked(notice, failed))
		wantLooked(t, looked(failed, notice))
		wantLooked(t, looked(failed, failed, notice))
		wantLooked(t, looked(failed, failed, notice, notice), "//ab/notice")
		wantLooked(t, looked(failed, failed, failed, notice), "//ab/notice")
		wantLooked(t, looked(failed, failed, failed, failed, notice), "//ab/notice")
		wantLooked(t, looked(at("//ab/a", page), notice), "//ab/a", "//ab/notice")
		wantLooked(t, looked(at("//ab/a", fail), notice), "//ab/notice")
		wantLooked(t, looked(failed, at("//ab/a", fail), notice), "//ab/notice")
		wantLooked(t, looked(at("//cd/a", page), notice), "//cd/a")
		wantLooked(t, looked(at("//cd/notice", page), failed, at("//cd/notice", page), notice), "//cd/notice")
		wantLooked(t, looked(at("//cd/notice", fail), at("//cd/notice", fail), at("//cd/notice", fail), notice))
		wantLooked(t, looked(at("//ab/notice?", kind)), "//ab/notice?")
		wantLooked(t, looked(at("//ab/a/notice", kind), at("//ab/notice/a", kind)), "//ab/a/notice", "//ab/notice/a")
		wantLooked(t, looked(at("//ab/notice?", fail), notice), "//ab/notice")
	}
}

func TestTripCallsTold(t *testing.T) {
	for _, c := range []struct {
		house string
		want  []int
	}{
		{"ab", []int{0, 3, 5}},
		{"cd", []int{14}},
		{"ef", []int{5}},
		{"zz", nil},
		{"a", nil},
		{"", nil},
		{"AB", nil},
		{"//ab", nil},
		{"abcdef", nil},
	} {
		if got := impl.TripCalls(toldTrip(), c.house); !slices.Equal(got, c.want) {
			t.Errorf("TripCalls of %q is %d, not %d", c.house, got, c.want)
		}
	}
}

func TestP74TripCallsAreTheTimesOfAllCallsAtTheHouse(t *testing.T) {
	for _, path := range tripPaths() {
		all := 0
		for _, house := range append(slices.Clone(worldHouses), "ef", "q") {
			var want []int
			for _, look := range looksAt(path.last(), house) {
				want = append(want, look.Time)
			}
			if got := impl.TripCalls(path.last(), house); !slices.Equal(got, want) {
				t.Errorf("TripCalls(%v, %q) = %d, not %d", path.last(), house, got, want)
			}
		}
		for _, house := range path.last().Houses {
			all += len(impl.TripCalls(path.last(), house.Name))
		}
		if all != len(path.last().Looks) {
			t.Errorf("%v has %d calls at all houses", path.last(), all)
		}
	}
}

func TestP75TripBackIsTwiceAsLongEachTime(t *testing.T) {
	want := 2
	for tries := 1; tries <= impl.TripTries; tries++ {
		if got := impl.TripBack(tries); got != want {
			t.Errorf("TripBack(%d) = %d, not %d", tries, got, want)
		}
		want *= 2
	}
	for _, tries := range []int{0, -1, impl.TripTries + 1, 62, 63, 64, 1<<63 - 1, -1 << 63} {
		if got := impl.TripBack(tries); got != 0 {
			t.Errorf("TripBack(%d) = %d", tries, got)
		}
	}
}

func TestP76AllInTripLookedDidNotFailAndStandsThereOnce(t *testing.T) {
	for _, s := range tripSteps() {
		got := impl.TripLooked(s.after)
		for i, addr := range got {
			there := slices.ContainsFunc(s.after.Looks, func(look impl.Look) bool { return look.Addr == addr && look.Kind != impl.GetFail })
			if !there || slices.Contains(got[:i], addr) {
				t.Errorf("TripLooked(%v) = %q, with %q", s.after, got, addr)
			}
		}
	}
}

func TestTripLookedIsInOrderOfCallsButForNotices(t *testing.T) {
	for _, path := range tripPaths() {
		var want []string
		for i, look := range path.last().Looks {
			house := houseOf(look.Addr)
			until := impl.Trip{Looks: path.last().Looks[:i+1]}
			at := looksAt(until, house)
			if asksOf(at, house) < len(at) && look.Kind != impl.GetFail && !slices.Contains(want, look.Addr) {
				want = append(want, look.Addr)
			}
		}
		wantLooked(t, path.last(), want...)
	}
}
