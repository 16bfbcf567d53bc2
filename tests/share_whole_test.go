package tests

import (
	"slices"
	"testing"

	"loop.example/pedlar/impl"
)

func TestP99AllCallsOfACallerAreAtItsOwnHouses(t *testing.T) {
	calls := make([]int, impl.ShareMax)
	for _, path := range sharePaths() {
		for _, trips := range path.rounds {
			for i, trip := range trips {
				for _, look := range trip.Looks {
					calls[i]++
					if ownerOf(houseOf(look.Addr), len(trips)) != i {
						t.Fatalf("of %d caller %d makes the call %v", len(trips), i, look)
					}
				}
			}
		}
	}
	if slices.Min(calls) < 1000 {
		t.Errorf("callers make %d calls", calls)
	}
}

func TestP100IfAllAreDoneShareLookedIsJustWorldReach(t *testing.T) {
	whole := 0
	for _, path := range sharePaths() {
		if !impl.ShareDone(path.last()) {
			t.Fatalf("%v are not done", path.last())
		}
		if anyCrowded(path.last()) {
			continue
		}
		got, want := impl.ShareLooked(path.last()), path.reach()
		if !slices.Equal(asSet(got), asSet(want)) {
			t.Errorf("in %v %d look at %q of %q", path.w, len(path.last()), got, want)
		}
		if len(asSet(houses(got))) > 1 {
			whole++
		}
	}
	if whole < 100 {
		t.Errorf("%d look at something at several houses", whole)
	}
}

// houses is the house of each address.
func houses(addrs []string) []string {
	var all []string
	for _, addr := range addrs {
		all = append(all, houseOf(addr))
	}
	return all
}

func TestCallersThatHearOfTooManyLookAtAllTheyHeardOf(t *testing.T) {
	crowded := 0
	for _, path := range sharePaths() {
		if !anyCrowded(path.last()) {
			continue
		}
		crowded++
		reach, got := path.reach(), impl.ShareLooked(path.last())
		for i, trip := range path.last() {
			if len(trip.Seen) > impl.TripMany {
				t.Errorf("%v has heard of too many", trip)
			}
			for _, addr := range trip.Seen {
				if ownerOf(houseOf(addr), len(path.last())) == i && slices.Contains(reach, addr) != slices.Contains(got, addr) {
					t.Errorf("%q is looked at: %v", addr, slices.Contains(got, addr))
				}
			}
		}
	}
	if crowded < 4 {
		t.Errorf("%d times one hears of too many", crowded)
	}
}

func TestP101ShareLookedHasEachOnce(t *testing.T) {
	for _, path := range sharePaths() {
		for _, trips := range path.rounds {
			looked := impl.ShareLooked(trips)
			if each := asSet(looked); len(each) != len(looked) {
				t.Errorf("in %v %d look at %q", path.w, len(trips), looked)
			}
		}
	}
}

func TestP102ShareDoneIsThatAllTripsAreDone(t *testing.T) {
	done, under, some := 0, 0, 0
	for _, path := range slices.Concat(sharePaths(), oddShares()) {
		for _, trips := range path.rounds {
			still := 0
			for _, trip := range trips {
				if !impl.TripDone(trip) {
					still++
				}
			}
			if impl.ShareDone(trips) != (still == 0) {
				t.Errorf("%v are done: %v, but %d are not", trips, impl.ShareDone(trips), still)
			}
			switch still {
			case 0:
				done++
			case len(trips):
				under++
			default:
				some++
			}
		}
	}
	if min(done, under, some) < 500 {
		t.Errorf("%d are done, %d under way, of %d some are done", done, under, some)
	}
	late := changedShare(func(trips []impl.Trip) {
		for i := range trips {
			trips[i].Houses[0].Ready = lastReady
		}
	})
	if impl.ShareDone(late) {
		t.Errorf("%v are done", late)
	}
}

func TestP103ShareLookedIsTripLookedOfEach(t *testing.T) {
	looked := 0
	for _, path := range slices.Concat(sharePaths(), oddShares()) {
		for _, trips := range path.rounds {
			var want []string
			for _, trip := range trips {
				want = append(want, impl.TripLooked(trip)...)
			}
			looked += len(want)
			if got := impl.ShareLooked(trips); !slices.Equal(got, want) {
				t.Errorf("ShareLooked of %v is %q, not %q", trips, got, want)
			}
		}
	}
	if looked < 1000 {
		t.Errorf("%d are looked at", looked)
	}
}

func TestShareLookedTold(t *testing.T) {
	trips := changedShare(func(trips []impl.Trip) {
		trips[1].Looks[1].Kind = impl.GetPage
		trips[2].Now = 7
		trips[2].Looks = []impl.Look{{Time: 6, Addr: "//ef/"}, {Time: 7, Addr: "//ab/", Kind: impl.GetPage}, {Time: 7, Addr: "//ef/notice"}}
	})
	// Looks that no rounds lead to: one address is looked at by two.
	want := []string{"//ab/", "//cd/y", "//ef/", "//ab/", "//ef/notice"}
	if got := impl.ShareLooked(trips); !slices.Equal(got, want) {
		t.Errorf("ShareLooked is %q, not %q", got, want)
	}
}

func TestP104NoHouseIsCalledAtTwiceAtATime(t *testing.T) {
	waits := 0
	for _, path := range sharePaths() {
		calls := map[string][]int{}
		for _, trip := range path.last() {
			for _, look := range trip.Looks {
				calls[houseOf(look.Addr)] = append(calls[houseOf(look.Addr)], look.Time)
			}
		}
		for house, times := range calls {
			slices.Sort(times)
			for i, time := range times[1:] {
				if time == times[i] {
					t.Errorf("in %v %d call at %q at the times %d", path.w, len(path.last()), house, times)
				}
				waits++
			}
		}
	}
	if waits < 1000 {
		t.Errorf("houses are called at again %d times", waits)
	}
}

func TestNoCallersCallAheadOfTime(t *testing.T) {
	for _, path := range sharePaths() {
		for _, trip := range path.last() {
			for _, house := range trip.Houses {
				looks := looksAt(trip, house.Name)
				asks := asksOf(looks, house.Name)
				wait := impl.WorldNotice(path.w, house.Name, path.name).Wait
				for i := 1; i < len(looks); i++ {
					if i >= asks && looks[i].Time-looks[i-1].Time < wait {
						t.Errorf("in %v the calls at %q are %v", path.w, house.Name, looks)
					}
				}
				for _, look := range looks[asks:] {
					wantLets(t, path.w, path.name, look.Addr, true)
				}
			}
		}
	}
}

func TestP105IfBothAreDoneSeveralLookAtWhatOneAloneDoes(t *testing.T) {
	both := 0
	for _, path := range sharePaths() {
		trip, _ := impl.TripNew(path.name, path.seeds)
		trip, _ = impl.TripRun(path.w, trip, mostCalls)
		if !impl.TripDone(trip) || !impl.ShareDone(path.last()) || isCrowded(trip) || anyCrowded(path.last()) {
			continue
		}
		got, want := impl.ShareLooked(path.last()), impl.TripLooked(trip)
		if !slices.Equal(asSet(got), asSet(want)) {
			t.Errorf("in %v %d look at %q, one at %q", path.w, len(path.last()), got, want)
		}
		if len(want) > 0 {
			both++
		}
	}
	if both < 1000 {
		t.Errorf("%d look at something", both)
	}
}
