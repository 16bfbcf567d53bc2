package tests

import (
	"slices"
	"testing"

	"loop.example/pedlar/impl"
)

func TestP77IfATripIsDoneTripLookedIsJustWorldReach(t *testing.T) {
	whole, notices := 0, 0
	for _, path := range tripPaths() {
		got := impl.TripLooked(path.last())
		if !impl.TripDone(path.last()) || isCrowded(path.last()) {
			continue
		}
		if want := path.reach(); !slices.Equal(asSet(got), asSet(want)) {
			t.Errorf("in %v %q of %q are looked at", path.w, got, want)
		}
		if len(got) > 0 {
			whole++
		}
		if slices.ContainsFunc(got, func(addr string) bool { return addr == noticeOf(houseOf(addr)) }) {
			notices++
		}
	}
	if min(whole, notices) < 100 {
		t.Errorf("%d look at something, %d at notices", whole, notices)
	}
}

func TestATripThatHearsOfTooManyLooksAtAllItHeardOf(t *testing.T) {
	crowded := 0
	for _, path := range tripPaths() {
		if !isCrowded(path.last()) {
			continue
		}
		crowded++
		if len(path.last().Seen) != impl.TripMany || !impl.TripDone(path.last()) {
			t.Errorf("%v is not done", path.last())
		}
		reach, got := path.reach(), impl.TripLooked(path.last())
		for _, addr := range path.last().Seen {
			if slices.Contains(reach, addr) != slices.Contains(got, addr) {
				t.Errorf("%q is looked at: %v", addr, slices.Contains(got, addr))
			}
		}
	}
	if crowded < 2 {
		t.Errorf("%d trips hear of too many", crowded)
	}
}

// pageLooks is all calls of a trip at a house but those for its notice.
func pageLooks(t impl.Trip, house string) []impl.Look {
	looks := looksAt(t, house)
	return looks[asksOf(looks, house):]
}

func TestP78NothingIsCalledAtAgainThatDidNotFailNorTooOften(t *testing.T) {
	most := 0
	for _, path := range tripPaths() {
		for _, house := range path.last().Houses {
			calls := map[string][]int{}
			for _, look := range pageLooks(path.last(), house.Name) {
				calls[look.Addr] = append(calls[look.Addr], look.Kind)
			}
			for addr, kinds := range calls {
				most = max(most, len(kinds))
				ahead := kinds[:len(kinds)-1]
				if len(kinds) > impl.TripTries || slices.ContainsFunc(ahead, func(kind int) bool { return kind != impl.GetFail }) {
					t.Errorf("in %v %q is called at with %d", path.w, addr, kinds)
				}
			}
		}
	}
	if most != impl.TripTries {
		t.Errorf("one calls at most %d times", most)
	}
}

func TestP79AllInTripLookedIsLetByItsHouse(t *testing.T) {
	for _, path := range tripPaths() {
		for _, addr := range impl.TripLooked(path.last()) {
			wantLets(t, path.w, path.name, addr, true)
		}
		for _, house := range path.last().Houses {
			for _, look := range pageLooks(path.last(), house.Name) {
				wantLets(t, path.w, path.name, look.Addr, true)
			}
		}
	}
}

func TestP80TheFirstCallAtEachHouseIsForItsNotice(t *testing.T) {
	for _, path := range tripPaths() {
		for _, house := range path.last().Houses {
			looks := looksAt(path.last(), house.Name)
			if len(looks) == 0 || looks[0].Addr != noticeOf(house.Name) {
				t.Errorf("in %v the calls at %q are %v", path.w, house.Name, looks)
			}
		}
	}
}

func TestP81CallsAtAHouseAreApartAndOnceItsNoticeIsKnownByItsWait(t *testing.T) {
	waits := 0
	for _, path := range tripPaths() {
		for _, house := range path.last().Houses {
			looks := looksAt(path.last(), house.Name)
			asks := asksOf(looks, house.Name)
			wait := impl.WorldNotice(path.w, house.Name, path.name).Wait
			for i := 1; i < len(looks); i++ {
				apart := looks[i].Time - looks[i-1].Time
				if apart < 1 || i >= asks && apart < wait {
					t.Errorf("in %v the calls at %q are %v", path.w, house.Name, looks)
				}
				if i >= asks && wait > 1 {
					waits++
				}
			}
		}
	}
	if waits < 400 {
		t.Errorf("one waits %d times", waits)
	}
}

func TestP82TheLastCallIsAsLongAgoAsIsKnownAndIfNoneCanBeAllIsDone(t *testing.T) {
	for _, path := range tripPaths() {
		for i, after := range path.trips[1:] {
			before := path.trips[i]
			look := after.Looks[len(after.Looks)-1]
			house, _ := houseIn(before, houseOf(look.Addr))
			calls := impl.TripCalls(before, house.Name)
			if len(calls) > 0 && look.Time < calls[len(calls)-1]+max(1, house.Group.Wait) {
				t.Errorf("in %v the call %v is made behind %d", path.w, look, calls)
			}
		}
		if _, _, ok := impl.TripNext(path.last()); ok || !impl.TripDone(path.last()) {
			t.Errorf("in %v no call can be made, but %v is not done", path.w, path.last())
		}
	}
}

func TestP83BehindACallThatFailedOneWaitsLonger(t *testing.T) {
	longer := map[int]int{}
	for _, path := range tripPaths() {
		for _, house := range path.last().Houses {
			looks := looksAt(path.last(), house.Name)
			asks := asksOf(looks, house.Name)
			failed := map[string]int{}
			for i := 0; i+1 < len(looks); i++ {
				wait := 1
				if i == asks {
					failed = map[string]int{}
				}
				if i >= asks {
					wait = max(1, impl.WorldNotice(path.w, house.Name, path.name).Wait)
				}
				if looks[i].Kind != impl.GetFail {
					continue
				}
				failed[looks[i].Addr]++
				times := failed[looks[i].Addr]
				longer[times]++
				if looks[i+1].Time < looks[i].Time+wait+backs[times] {
					t.Errorf("in %v the calls at %q are %v", path.w, house.Name, looks)
				}
			}
		}
	}
	if min(longer[1], longer[2], longer[3]) < 100 {
		t.Errorf("one waits longer %v times", longer)
	}
}

func TestP84WhatIsKnownIsWorldNoticeAndNothingIsLeftThatItBars(t *testing.T) {
	known := 0
	for _, path := range tripPaths() {
		for _, trip := range path.trips {
			for _, house := range trip.Houses {
				if !house.Known {
					continue
				}
				known++
				wantSaid(t, path.w, house.Name, path.name, house.Group)
				for _, item := range house.Todo {
					wantLets(t, path.w, path.name, item.Addr, true)
				}
			}
		}
	}
	if known < 1000 {
		t.Errorf("%d houses are known", known)
	}
}

func TestP85SeedsFromBehindComeOutTheSame(t *testing.T) {
	for _, path := range tripPaths() {
		seeds := slices.Clone(path.seeds)
		slices.Reverse(seeds)
		trip, _ := impl.TripNew(path.name, seeds)
		trip, ok := impl.TripRun(path.w, trip, mostCalls)
		if !ok || !impl.TripDone(trip) {
			t.Fatalf("%v is not done", trip)
		}
		if isCrowded(trip) {
			continue
		}
		got, want := asSet(impl.TripLooked(trip)), asSet(impl.TripLooked(path.last()))
		if !slices.Equal(got, want) {
			t.Errorf("in %v from %q %q are looked at, not %q", path.w, seeds, got, want)
		}
	}
}

func TestP86AllInSeenAreSeedsOrLedToByWhatWasLookedAt(t *testing.T) {
	for _, path := range tripPaths() {
		for _, trip := range path.trips {
			looked := impl.TripLooked(trip)
			heard := slices.Clone(path.seeds)
			for _, addr := range looked {
				heard = append(heard, impl.WorldFrom(path.w, addr)...)
				if !slices.Contains(trip.Seen, addr) {
					t.Errorf("%q is looked at, but not seen in %v", addr, trip)
				}
			}
			for _, addr := range trip.Seen {
				if !slices.Contains(heard, addr) {
					t.Errorf("%q is seen in %v, but from %q one hears of %q", addr, trip, path.seeds, heard)
				}
			}
			for _, addr := range heard {
				if isAddress(addr) && !isCrowded(trip) && !slices.Contains(trip.Seen, addr) {
					t.Errorf("%q is not seen in %v", addr, trip)
				}
			}
		}
	}
}

func TestP87AllCallsAreAtHousesThatWereHeardOfEachOnce(t *testing.T) {
	for _, path := range tripPaths() {
		var heard, houses []string
		for _, addr := range path.last().Seen {
			heard = append(heard, houseOf(addr))
		}
		for i, house := range path.last().Houses {
			houses = append(houses, house.Name)
			if slices.Contains(houses[:i], house.Name) || !slices.Contains(heard, house.Name) {
				t.Errorf("%v has the house %q", path.last(), house.Name)
			}
		}
		for _, look := range path.last().Looks {
			if !slices.Contains(houses, houseOf(look.Addr)) {
				t.Errorf("%v has the call %v", path.last(), look)
			}
		}
	}
}

func TestP89AHouseWhoseNoticeAlwaysFailsIsCalledAtNotTooOften(t *testing.T) {
	failing := 0
	for _, path := range tripPaths() {
		for _, house := range path.last().Houses {
			if !fails(path.w, noticeOf(house.Name)) {
				continue
			}
			failing++
			looks := looksAt(path.last(), house.Name)
			if len(looks) != impl.TripTries || slices.ContainsFunc(looks, func(look impl.Look) bool { return look.Addr != noticeOf(house.Name) }) {
				t.Errorf("in %v the calls at %q are %v", path.w, house.Name, looks)
			}
		}
	}
	if failing < 100 {
		t.Errorf("%d notices always fail", failing)
	}
}

func TestP91WhatDidNotFailIsWhatStandsThere(t *testing.T) {
	for _, path := range tripPaths() {
		for _, look := range path.last().Looks {
			kind, _ := impl.WorldGet(path.w, look.Addr, atLast)
			if look.Kind != impl.GetFail && look.Kind != kind {
				t.Errorf("in %v the call %v is made, but %d stands there", path.w, look, kind)
			}
			if kind == impl.GetFail && look.Kind != kind {
				t.Errorf("in %v the call %v does not fail", path.w, look)
			}
		}
	}
}

func TestP93ThereAreNotTooManyCallsForEachAddressAndEachHouse(t *testing.T) {
	both := 0
	for _, path := range tripPaths() {
		for _, house := range path.last().Houses {
			looks := looksAt(path.last(), house.Name)
			asks := asksOf(looks, house.Name)
			calls := map[string]int{}
			for _, look := range looks[asks:] {
				calls[look.Addr]++
			}
			for addr, times := range calls {
				if times > impl.TripTries {
					t.Errorf("in %v %q is called at %d times", path.w, addr, times)
				}
			}
			if asks > impl.TripTries {
				t.Errorf("in %v %q is asked %d times", path.w, house.Name, asks)
			}
			if asks == impl.TripTries && calls[noticeOf(house.Name)] == impl.TripTries {
				both++
			}
		}
	}
	if both == 0 {
		t.Error("no notice is called at as often as may be, for the house, and for itself")
	}
}

func TestP94InAnEmptyWorldAllSeedsAreLookedAtAndEachHouseAskedOnce(t *testing.T) {
	for _, path := range tripPaths() {
		begun := path.first()
		for _, w := range [][]impl.Page{nil, {}} {
			got, ok := impl.TripRun(w, begun, mostCalls)
			if !ok || !impl.TripDone(got) || len(got.Looks) != len(begun.Seen)+len(begun.Houses) {
				t.Errorf("from %q the calls are %v", path.seeds, got.Looks)
			}
			if looked := impl.TripLooked(got); !slices.Equal(asSet(looked), asSet(begun.Seen)) {
				t.Errorf("from %q %q are looked at", path.seeds, looked)
			}
			for _, house := range begun.Houses {
				looks := looksAt(got, house.Name)
				if len(looks) != 1+len(house.Todo) || looks[0].Addr != noticeOf(house.Name) {
					t.Errorf("from %q the calls at %q are %v", path.seeds, house.Name, looks)
				}
			}
		}
	}
}
