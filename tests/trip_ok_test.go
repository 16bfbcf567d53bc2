package tests

import (
	"slices"
	"strings"
	"testing"

	"loop.example/pedlar/impl"
)

// edgeTrips are ok trips that meet a limit each.
func edgeTrips() map[string]impl.Trip {
	return map[string]impl.Trip{
		"as told":                 toldTrip(),
		"a name alone":            {Name: "abcdefgh"},
		"the last time":           changed(func(t *impl.Trip) { t.Now = impl.TripTime }),
		"a call at the last time": changed(func(t *impl.Trip) { t.Now, t.Looks[4].Time = impl.TripTime, impl.TripTime }),
		"all calls at once":       changed(func(t *impl.Trip) { timeLooks(t, 14) }),
		"all seen":                changed(func(t *impl.Trip) { t.Seen = append(t.Seen, seenOf(impl.TripMany-len(t.Seen))...) }),
		"all calls":               changed(func(t *impl.Trip) { t.Looks = slices.Repeat(t.Looks[:1], mostCalls) }),
		"ready at last":           changed(func(t *impl.Trip) { t.Houses[0].Ready = lastReady }),
		"ready at once":           changed(func(t *impl.Trip) { t.Houses[0].Ready = 0 }),
		"all tries of a house":    changed(func(t *impl.Trip) { t.Houses[0].Tries = atLast }),
		"no tries of a house":     changed(func(t *impl.Trip) { t.Houses[1].Tries = 0 }),
		"all rules":               changed(func(t *impl.Trip) { t.Houses[0].Group.Rules = slices.Repeat([]impl.Rule{let("/a")}, knownRules) }),
		"the longest rule":        changed(func(t *impl.Trip) { t.Houses[0].Group.Rules[0] = let("/" + xs(impl.RuleMax-1)) }),
		"the longest Wait":        changed(func(t *impl.Trip) { t.Houses[0].Group.Wait = impl.RuleWait }),
		"no Wait":                 changed(func(t *impl.Trip) { t.Houses[0].Group.Wait = 0 }),
		"what is barred is left":  changed(func(t *impl.Trip) { t.Houses[0].Todo[0].Addr = "//ab/b" }),
		"all tries of an address": changed(func(t *impl.Trip) { t.Houses[0].Todo[0].Tries = atLast }),
		"nothing left":            changed(func(t *impl.Trip) { t.Houses[0].Todo, t.Houses[1].Todo = nil, nil }),
		"no calls":                changed(func(t *impl.Trip) { t.Looks = nil }),
		"calls elsewhere":         changed(func(t *impl.Trip) { t.Looks[1].Addr = "//zz/what" }),
		"seen elsewhere":          changed(func(t *impl.Trip) { t.Seen = append(t.Seen, "//zz/what") }),
		"the longest house":       changed(func(t *impl.Trip) { t.Houses[2].Name = "abcde" }),
		"many houses":             changed(func(t *impl.Trip) { t.Houses = append(t.Houses, manyHouses(500)...) }),
		"not known, no rules":     changed(func(t *impl.Trip) { t.Houses[1].Group.Rules = []impl.Rule{} }),
	}
}

// timeLooks sets when all calls were.
func timeLooks(t *impl.Trip, time int) {
	for i := range t.Looks {
		t.Looks[i].Time = time
	}
}

// manyHouses is so many houses of the told trip's caller.
func manyHouses(n int) []impl.House {
	var all []impl.House
	for i := range n {
		name := string([]byte{'x', byte('a' + i/26), byte('a' + i%26)})
		all = append(all, newHouse(name, "rover"))
	}
	return all
}

// wrongTrips are trips that are not ok, for one reason each.
func wrongTrips() map[string]impl.Trip {
	all := map[string]impl.Trip{
		"nothing":                    {},
		"the time below 0":           {Name: "rover", Now: -1},
		"the time too late":          changed(func(t *impl.Trip) { t.Now = impl.TripTime + 1 }),
		"calls behind now":           changed(func(t *impl.Trip) { t.Now = 13 }),
		"a call below 0":             changed(func(t *impl.Trip) { t.Looks[0].Time = -1 }),
		"calls not in order":         changed(func(t *impl.Trip) { t.Looks[1].Time = 6 }),
		"a kind below":               changed(func(t *impl.Trip) { t.Looks[1].Kind = impl.GetNone - 1 }),
		"a kind above":               changed(func(t *impl.Trip) { t.Looks[1].Kind = impl.GetFail + 1 }),
		"too many calls":             changed(func(t *impl.Trip) { t.Looks = slices.Repeat(t.Looks[:1], mostCalls+1) }),
		"too many seen":              changed(func(t *impl.Trip) { t.Seen = append(t.Seen, seenOf(impl.TripMany+1-len(t.Seen))...) }),
		"seen twice":                 changed(func(t *impl.Trip) { t.Seen = append(t.Seen, "//ab/") }),
		"a house twice":              changed(func(t *impl.Trip) { t.Houses[2].Name = "cd" }),
		"the same house twice":       changed(func(t *impl.Trip) { t.Houses = append(t.Houses, t.Houses[2]) }),
		"ready below 0":              changed(func(t *impl.Trip) { t.Houses[0].Ready = -1 }),
		"ready too late":             changed(func(t *impl.Trip) { t.Houses[2].Ready = lastReady + 1 }),
		"tries of a house below 0":   changed(func(t *impl.Trip) { t.Houses[1].Tries = -1 }),
		"too many tries of a house":  changed(func(t *impl.Trip) { t.Houses[0].Tries = impl.TripTries }),
		"no names":                   changed(func(t *impl.Trip) { t.Houses[0].Group.Names = nil }),
		"another name":               changed(func(t *impl.Trip) { t.Houses[0].Group.Names[0] = "scout" }),
		"each name":                  changed(func(t *impl.Trip) { t.Houses[0].Group.Names[0] = "*" }),
		"a name more":                changed(func(t *impl.Trip) { t.Houses[0].Group.Names = []string{"rover", "scout"} }),
		"the name twice":             changed(func(t *impl.Trip) { t.Houses[1].Group.Names = []string{"rover", "rover"} }),
		"no names, not known":        changed(func(t *impl.Trip) { t.Houses[1].Group.Names = nil }),
		"too many rules":             changed(func(t *impl.Trip) { t.Houses[0].Group.Rules = slices.Repeat([]impl.Rule{let("/a")}, knownRules+1) }),
		"a rule that is none":        changed(func(t *impl.Trip) { t.Houses[0].Group.Rules[0].Path = "b" }),
		"a rule too long":            changed(func(t *impl.Trip) { t.Houses[0].Group.Rules[0] = let("/" + xs(impl.RuleMax)) }),
		"a Wait below 0":             changed(func(t *impl.Trip) { t.Houses[0].Group.Wait = -1 }),
		"a Wait too long":            changed(func(t *impl.Trip) { t.Houses[0].Group.Wait = impl.RuleWait + 1 }),
		"rules, not known":           changed(func(t *impl.Trip) { t.Houses[1].Group.Rules = []impl.Rule{bar("/a")} }),
		"a Wait, not known":          changed(func(t *impl.Trip) { t.Houses[1].Group.Wait = 1 }),
		"left, of another house":     changed(func(t *impl.Trip) { t.Houses[1].Todo[0].Addr = "//ab/b" }),
		"left, not seen":             changed(func(t *impl.Trip) { t.Houses[1].Todo[0].Addr = "//cd/y" }),
		"left, not known, not seen":  changed(func(t *impl.Trip) { t.Seen = nil }),
		"left twice":                 changed(func(t *impl.Trip) { t.Houses[0].Todo[1].Addr = "//ab/c" }),
		"left, tries below 0":        changed(func(t *impl.Trip) { t.Houses[0].Todo[1].Tries = -1 }),
		"left, too many tries":       changed(func(t *impl.Trip) { t.Houses[0].Todo[0].Tries = impl.TripTries }),
		"left, of what is no house":  changed(func(t *impl.Trip) { t.Houses[1].Name = "AB" }),
		"a house among many, twice":  changed(func(t *impl.Trip) { t.Houses = append(append(t.Houses, manyHouses(500)...), newHouse("xaa", "rover")) }),
		"great numbers":              changed(func(t *impl.Trip) { t.Now, t.Houses[0].Ready = 1<<62, 1<<62 }),
		"numbers of the least worth": changed(func(t *impl.Trip) { t.Now, t.Houses[0].Ready, t.Looks[0].Time = -1<<63, -1<<63, -1<<63 }),
	}
	for _, name := range wrongNames {
		all["the name "+name] = impl.Trip{Name: name}
		all["the name of all "+name] = changed(func(t *impl.Trip) { nameAll(t, name) })
	}
	for _, name := range wrongHouses {
		all["the house "+name] = changed(func(t *impl.Trip) { t.Houses[2].Name = name })
	}
	for _, text := range notAddresses {
		all["seen "+text] = changed(func(t *impl.Trip) { t.Seen[5] = text })
		all["a call at "+text] = changed(func(t *impl.Trip) { t.Looks[2].Addr = text })
		all["left and seen "+text] = changed(func(t *impl.Trip) { t.Seen[4], t.Houses[0].Todo[0].Addr = text, text })
	}
	return all
}

// nameAll gives a trip, and its houses, another caller.
func nameAll(t *impl.Trip, name string) {
	t.Name = name
	for i := range t.Houses {
		t.Houses[i].Group.Names[0] = name
	}
}

func TestTripOkAtTheLimits(t *testing.T) {
	for what, trip := range edgeTrips() {
		if !impl.TripOk(trip) {
			t.Errorf("%q: %v is not ok", what, trip)
		}
	}
}

func TestTripOkOfWrongTrips(t *testing.T) {
	for what, trip := range wrongTrips() {
		if impl.TripOk(trip) {
			t.Errorf("%q: %v is ok", what, trip)
		}
	}
}

func TestTripsOfWrongTripsAreNothing(t *testing.T) {
	for what, trip := range wrongTrips() {
		if place, when, ok := impl.TripNext(trip); place != 0 || when != 0 || ok {
			t.Errorf("%q: TripNext is %d, %d, %v", what, place, when, ok)
		}
		got, ok := impl.TripStep(toldWorld(), trip)
		wantNoTrip(t, what+": TripStep", got, ok)
		for _, steps := range []int{0, 1, mostCalls} {
			got, ok := impl.TripRun(toldWorld(), trip, steps)
			wantNoTrip(t, what+": TripRun", got, ok)
		}
		if impl.TripDone(trip) {
			t.Errorf("%q: it is done", what)
		}
		if looked := impl.TripLooked(trip); len(looked) != 0 {
			t.Errorf("%q: TripLooked is %q", what, looked)
		}
		for _, house := range []string{"ab", "cd", "ef", ""} {
			if calls := impl.TripCalls(trip, house); len(calls) != 0 {
				t.Errorf("%q: TripCalls of %q is %d", what, house, calls)
			}
		}
	}
}

func TestTripsOfWrongWorldsAreNothing(t *testing.T) {
	for _, w := range wrongWorlds() {
		for what, trip := range edgeTrips() {
			got, ok := impl.TripStep(w, trip)
			wantNoTrip(t, what+": TripStep", got, ok)
			for _, steps := range []int{0, 1, mostCalls} {
				got, ok := impl.TripRun(w, trip, steps)
				wantNoTrip(t, what+": TripRun", got, ok)
			}
		}
	}
}

func TestP92InAnOkTripAllThatIsLeftIsOfItsHouseAndWasHeardOf(t *testing.T) {
	left := 0
	for _, s := range tripSteps() {
		for _, house := range s.after.Houses {
			for _, item := range house.Todo {
				left++
				if !strings.HasPrefix(item.Addr, "//"+house.Name+"/") || !slices.Contains(s.after.Seen, item.Addr) {
					t.Errorf("%v has %q left at %q", s.after, item.Addr, house.Name)
				}
			}
		}
		for place, house := range s.after.Houses {
			for i := range house.Todo {
				notHeard := copyTrip(s.after)
				notHeard.Seen = slices.DeleteFunc(notHeard.Seen, func(addr string) bool { return addr == house.Todo[i].Addr })
				moved := copyTrip(s.after)
				moved.Houses[place].Name = "q"
				if impl.TripOk(notHeard) || impl.TripOk(moved) {
					t.Errorf("%v, or %v, is ok", notHeard, moved)
				}
			}
		}
	}
	if left < 1000 {
		t.Errorf("%d are left", left)
	}
}
