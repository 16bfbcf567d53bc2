package tests

import (
	"slices"
	"testing"

	"loop.example/pedlar/impl"
)

// backs is how long one waits behind calls that failed, by how often.
var backs = [...]int{0, 2, 4, 8}

// wantNext says where, and when, the next call must be.
func wantNext(t *testing.T, trip impl.Trip, place, when int) {
	t.Helper()
	if gotPlace, got, ok := impl.TripNext(trip); !ok || gotPlace != place || got != when {
		t.Errorf("TripNext(%v) = %d, %d, %v, not %d, %d", trip, gotPlace, got, ok, place, when)
	}
}

// wantNoNext says that no call must be left, none being made then.
func wantNoNext(t *testing.T, trip impl.Trip) {
	t.Helper()
	if place, when, ok := impl.TripNext(trip); ok || place != 0 || when != 0 {
		t.Errorf("TripNext(%v) = %d, %d, %v", trip, place, when, ok)
	}
	wantNoCall(t, trip)
}

// wantNoCall says that no call must be made.
func wantNoCall(t *testing.T, trip impl.Trip) {
	t.Helper()
	got, ok := impl.TripStep(toldWorld(), trip)
	wantNoTrip(t, "TripStep", got, ok)
	for _, steps := range []int{0, 1, mostCalls} {
		got, ok = impl.TripRun(toldWorld(), trip, steps)
		wantTrip(t, "TripRun", got, ok, trip)
	}
}

func TestTripNextTold(t *testing.T) {
	wantNext(t, toldTrip(), 1, 15)
	for _, c := range []struct{ now, first, second, place, when int }{
		{14, 16, 16, 0, 16},
		{14, 17, 16, 1, 16},
		{14, 14, 0, 0, 14},
		{14, 0, 14, 0, 14},
		{20, 19, 18, 0, 20},
		{20, 21, 20, 1, 20},
		{14, impl.TripTime, impl.TripTime, 0, impl.TripTime},
		{14, impl.TripTime + 1, impl.TripTime, 1, impl.TripTime},
		{impl.TripTime, 0, 0, 0, impl.TripTime},
		{impl.TripTime, impl.TripTime + 1, 0, 1, impl.TripTime},
	} {
		wantNext(t, changed(func(t *impl.Trip) { t.Now, t.Houses[0].Ready, t.Houses[1].Ready = c.now, c.first, c.second }), c.place, c.when)
	}
	wantNext(t, changed(func(t *impl.Trip) { t.Houses[1].Todo = nil }), 0, 16)
	wantNext(t, changed(func(t *impl.Trip) { t.Looks = slices.Repeat(t.Looks[:1], mostCalls) }), 1, 15)
}

func TestTripNextOfNone(t *testing.T) {
	wantNoNext(t, impl.Trip{Name: "rover"})
	wantNoNext(t, changed(func(t *impl.Trip) { t.Houses[0].Todo, t.Houses[1].Todo = nil, nil }))
	wantNoNext(t, changed(func(t *impl.Trip) { t.Houses = nil }))
	for _, ready := range []int{impl.TripTime + 1, lastReady} {
		wantNoNext(t, changed(func(t *impl.Trip) { t.Houses[0].Ready, t.Houses[1].Ready = ready, ready }))
	}
}

func TestTripStepAtTheLastTime(t *testing.T) {
	w := []impl.Page{{Addr: "//ab/a", Fails: 3}}
	last := changed(func(t *impl.Trip) {
		t.Houses[0].Ready, t.Houses[0].Group.Wait = impl.TripTime, impl.RuleWait
		t.Houses[0].Todo = t.Houses[0].Todo[1:]
		t.Houses[1].Todo = nil
	})
	want := copyTrip(last)
	want.Now = impl.TripTime
	want.Looks = append(want.Looks, impl.Look{Time: impl.TripTime, Addr: "//ab/a", Kind: impl.GetFail})
	want.Houses[0].Ready = impl.TripTime + impl.RuleWait + 8
	want.Houses[0].Todo = nil
	got, ok := impl.TripStep(w, last)
	wantTrip(t, "TripStep at the last time", got, ok, want)
	if !impl.TripOk(got) {
		t.Errorf("%v is not ok", got)
	}
}

func TestTripStepAtTheLastCall(t *testing.T) {
	for calls := mostCalls - 2; calls <= mostCalls; calls++ {
		trip := changed(func(t *impl.Trip) { t.Looks = slices.Repeat(t.Looks[4:], calls) })
		if calls == mostCalls {
			wantNoCall(t, trip)
			continue
		}
		if got, ok := impl.TripStep(toldWorld(), trip); !ok || len(got.Looks) != calls+1 || !impl.TripOk(got) {
			t.Errorf("TripStep behind %d calls is %v, %v", calls, got, ok)
		}
		got, ok := impl.TripRun(toldWorld(), trip, mostCalls)
		if !ok || len(got.Looks) != mostCalls || !impl.TripOk(got) || impl.TripDone(got) {
			t.Errorf("TripRun behind %d calls is %v, %v", calls, got, ok)
		}
		if _, _, next := impl.TripNext(got); !next {
			t.Errorf("nothing is left of %v", got)
		}
	}
}

func TestTripHearsOfNotTooMany(t *testing.T) {
	w := []impl.Page{{Addr: "//ab/c", Text: "<b><//zz/a><//yy/a></d><//cd/y>"}}
	for seen := impl.TripMany - 3; seen <= impl.TripMany; seen++ {
		trip := changed(func(t *impl.Trip) {
			t.Seen = append(t.Seen, seenOf(seen-len(t.Seen))...)
			t.Houses[1].Ready = 20
		})
		heard := []string{"//zz/a", "//yy/a", "//ab/d"}[:impl.TripMany-seen]
		want := copyTrip(trip)
		want.Now = 16
		want.Looks = append(want.Looks, impl.Look{Time: 16, Addr: "//ab/c", Kind: impl.GetPage})
		want.Seen = append(want.Seen, heard...)
		want.Houses[0].Ready = 18
		want.Houses[0].Todo = want.Houses[0].Todo[1:]
		for _, addr := range heard {
			if house := houseOf(addr); house != "ab" {
				want.Houses = append(want.Houses, newHouse(house, "rover", addr))
				continue
			}
			want.Houses[0].Todo = append(want.Houses[0].Todo, impl.Item{Addr: addr})
		}
		got, ok := impl.TripStep(w, trip)
		wantTrip(t, "TripStep", got, ok, want)
	}
}

func TestWhatAKnownHouseBarsIsSeenAlone(t *testing.T) {
	w := []impl.Page{{Addr: "//ab/c", Text: "<b/a><e><//ef/b><//cd/b><//ef/notice>"}}
	trip := changed(func(t *impl.Trip) {
		t.Houses[1].Ready = 20
		t.Houses[2].Group.Rules = []impl.Rule{bar("/")}
	})
	want := copyTrip(trip)
	want.Now = 16
	want.Looks = append(want.Looks, impl.Look{Time: 16, Addr: "//ab/c", Kind: impl.GetPage})
	want.Seen = append(want.Seen, "//ab/b/a", "//ab/e", "//ef/b", "//cd/b", "//ef/notice")
	want.Houses[0].Ready = 18
	want.Houses[0].Todo = []impl.Item{{Addr: "//ab/a", Tries: 2}, {Addr: "//ab/e"}}
	want.Houses[1].Todo = append(want.Houses[1].Todo, impl.Item{Addr: "//cd/b"})
	got, ok := impl.TripStep(w, trip)
	wantTrip(t, "TripStep", got, ok, want)
}

func TestP64TripStepMakesOneCallWhereAndWhenTripNextTells(t *testing.T) {
	for _, s := range tripSteps() {
		if !impl.TripOk(s.after) || s.after.Name != s.before.Name {
			t.Fatalf("TripStep of %v is %v", s.before, s.after)
		}
		calls := len(s.before.Looks)
		if len(s.after.Looks) != calls+1 || !slices.Equal(s.after.Looks[:calls], s.before.Looks) {
			t.Fatalf("TripStep of %v has the calls %v", s.before, s.after.Looks)
		}
		look := s.look()
		if look.Time != s.when || s.after.Now != s.when || houseOf(look.Addr) != s.ahead().Name {
			t.Errorf("TripStep of %v is %v, the call not at %d, at %q", s.before, s.after, s.when, s.ahead().Name)
		}
		if kind, _ := impl.WorldGet(s.w, look.Addr, s.tries()); look.Kind != kind {
			t.Errorf("TripStep of %v is %v, but one gets %d", s.before, s.after, kind)
		}
	}
	if len(tripSteps()) < 10000 {
		t.Errorf("there are %d calls alone", len(tripSteps()))
	}
	for _, path := range slices.Concat(tripPaths(), oddTrips()) {
		if _, _, ok := impl.TripNext(path.last()); ok {
			continue
		}
		got, ok := impl.TripStep(path.w, path.last())
		wantNoTrip(t, "TripStep", got, ok)
	}
}

func TestP65NoHouseIsCalledAtAheadOfReadyWhichIsLaterThen(t *testing.T) {
	for _, s := range tripSteps() {
		if s.when < s.ahead().Ready || s.when < s.before.Now {
			t.Errorf("the call of %v is at %d", s.before, s.when)
		}
		want := s.when + max(s.ahead().Group.Wait, 1)
		if s.failed() {
			want += backs[s.tries()+1]
		}
		if !s.ahead().Known {
			want = max(want, s.when+s.then().Group.Wait)
		}
		if got := s.then().Ready; got != want || got <= s.when {
			t.Errorf("behind the call of %v it is ready at %d, not %d: %v", s.before, got, want, s.after)
		}
		for i, house := range s.after.Houses {
			ready := 0
			if i < len(s.before.Houses) {
				ready = s.before.Houses[i].Ready
			}
			if i != s.place && house.Ready != ready {
				t.Errorf("a call elsewhere changes when %q of %v is ready: %v", house.Name, s.before, s.after)
			}
		}
	}
}

func TestP66AtAHouseThatIsNotKnownTheNoticeIsCalledForElseTheFirst(t *testing.T) {
	again, known, given := 0, 0, 0
	for _, s := range tripSteps() {
		ahead, then := s.ahead(), s.then()
		if ahead.Known {
			if s.look().Addr != ahead.Todo[0].Addr || !then.Known || !sameGroup(then.Group, ahead.Group) || then.Tries != ahead.Tries {
				t.Errorf("the call at %v is %v; it is %v then", ahead, s.look(), then)
			}
			continue
		}
		if s.look().Addr != noticeOf(ahead.Name) {
			t.Errorf("the call at %v is %v", ahead, s.look())
		}
		want := ahead
		switch {
		case s.failed() && ahead.Tries < atLast:
			want.Tries++
			again++
		default:
			want.Known = true
			want.Group = impl.WorldNotice(s.w, ahead.Name, s.name)
			want.Todo = slices.DeleteFunc(slices.Clone(want.Todo), func(item impl.Item) bool { return barredAt(want, item.Addr) })
			if s.failed() {
				given++
			} else {
				known++
			}
		}
		want.Ready = then.Ready
		if !sameHouse(then, want) {
			t.Errorf("behind the call %v at %v it is %v, not %v", s.look(), ahead, then, want)
		}
		if s.failed() && then.Known && len(then.Todo) != 0 {
			t.Errorf("the notice of %v fails, but %v is left", ahead, then.Todo)
		}
	}
	if min(again, known, given) < 100 {
		t.Errorf("%d notices are called for again, %d are known, %d are given up", again, known, given)
	}
}

func TestP67WhatFailedIsPutBehindWithTripBackMoreToWaitOrGoes(t *testing.T) {
	behind, gone := 0, 0
	for _, s := range tripSteps() {
		ahead, then := s.ahead(), s.then()
		if !s.failed() || !ahead.Known {
			continue
		}
		item := ahead.Todo[0]
		want := slices.Clone(ahead.Todo[1:])
		if item.Tries < atLast {
			want = append(want, impl.Item{Addr: item.Addr, Tries: item.Tries + 1})
			behind++
		} else {
			gone++
		}
		if !slices.Equal(then.Todo, want) {
			t.Errorf("behind the call %v at %v %v is left, not %v", s.look(), ahead, then.Todo, want)
		}
		if more := then.Ready - s.when - max(ahead.Group.Wait, 1); more != impl.TripBack(item.Tries+1) {
			t.Errorf("behind the call %v at %v one waits %d more", s.look(), ahead, more)
		}
	}
	if min(behind, gone) < 100 {
		t.Errorf("%d are put behind, %d go", behind, gone)
	}
}

// leadsOf is where one comes by a call.
func leadsOf(t *testing.T, s tripStep) []string {
	if !s.ahead().Known {
		return nil
	}
	look := s.look()
	switch kind, text := impl.WorldGet(s.w, look.Addr, s.tries()); kind {
	case impl.GetPage:
		return impl.PageAddrs(read(t, look.Addr), text)
	case impl.GetLead:
		return []string{text}
	}
	return nil
}

// hears is a trip that has heard of some more.
func hears(t impl.Trip, addrs []string) impl.Trip {
	t = copyTrip(t)
	for _, addr := range addrs {
		if slices.Contains(t.Seen, addr) || len(t.Seen) == impl.TripMany {
			continue
		}
		t.Seen = append(t.Seen, addr)
		if _, stands := houseIn(t, houseOf(addr)); !stands {
			t.Houses = append(t.Houses, newHouse(houseOf(addr), t.Name))
		}
		for i, house := range t.Houses {
			if house.Name == houseOf(addr) && !barredAt(house, addr) {
				t.Houses[i].Todo = append(house.Todo, impl.Item{Addr: addr})
			}
		}
	}
	return t
}

func TestP68OneHearsJustOfWhereItLeads(t *testing.T) {
	heard, barred, full := 0, 0, 0
	for _, s := range tripSteps() {
		ahead := copyTrip(s.before)
		if house := &ahead.Houses[s.place]; house.Known {
			house.Todo = house.Todo[1:]
			if s.failed() {
				house.Todo = s.then().Todo
			}
		} else {
			*house = s.then()
		}
		leads := leadsOf(t, s)
		if s.failed() && len(leads) > 0 {
			t.Fatalf("%v fails, and leads to %q", s.look(), leads)
		}
		want := hears(ahead, leads)
		want.Now, want.Looks = s.after.Now, s.after.Looks
		want.Houses[s.place].Ready = s.then().Ready
		wantTrip(t, "TripStep", s.after, true, want)
		more := len(want.Seen) - len(s.before.Seen)
		heard += more
		if isCrowded(want) && more < len(leads) {
			full++
		}
		for _, addr := range want.Seen[len(s.before.Seen):] {
			if house, _ := houseIn(want, houseOf(addr)); barredAt(house, addr) {
				barred++
			}
		}
	}
	if heard < 1000 || barred < 100 || full < 2 {
		t.Errorf("of %d one hears, of %d that are barred, and %d times of too many", heard, barred, full)
	}
}

func TestP69NoHouseThatHasSomethingLeftIsReadyAheadOfTripNext(t *testing.T) {
	for _, s := range tripSteps() {
		if len(s.ahead().Todo) == 0 || max(s.ahead().Ready, s.before.Now) != s.when {
			t.Errorf("TripNext(%v) = %d, %d", s.before, s.place, s.when)
		}
		for i, house := range s.before.Houses {
			ready := max(house.Ready, s.before.Now)
			if len(house.Todo) > 0 && (ready < s.when || ready == s.when && i < s.place) {
				t.Errorf("TripNext(%v) = %d, %d, but %q is ready", s.before, s.place, s.when, house.Name)
			}
		}
	}
}
