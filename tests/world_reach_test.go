package tests

import (
	"slices"
	"testing"

	"loop.example/pedlar/impl"
)

// reachCase is what WorldReach is asked of.
type reachCase struct {
	w     []impl.Page
	name  string
	seeds []string
}

// reachCases are worlds, with seeds of each number, some of them twice, or no addresses.
func reachCases() []reachCase {
	d := &dice{at: 7}
	texts := slices.Concat(worldAddrs, worldAddrs, notAddresses[:6])
	var all []reachCase
	for i, w := range okWorlds() {
		for n := range 7 {
			var seeds []string
			for range n * 2 {
				seeds = append(seeds, pick(d, texts))
			}
			all = append(all, reachCase{w, worldNames[(i+n)%2], seeds})
		}
		all = append(all, reachCase{w, worldNames[i%2], []string{"//ab/"}})
	}
	return all
}

func (c reachCase) reach() []string {
	return impl.WorldReach(c.w, c.name, c.seeds)
}

// isOpen says whether a caller that comes to an address looks at it.
func (c reachCase) isOpen(addr string) bool {
	return impl.WorldLets(c.w, c.name, addr) && !fails(c.w, addr)
}

// asSet is a list in an order that does not hang on how one came to it.
func asSet(list []string) []string {
	sorted := slices.Sorted(slices.Values(list))
	return slices.Compact(sorted)
}

func TestWorldReachTold(t *testing.T) {
	w := toldWorld()
	for _, c := range []struct {
		name        string
		seeds, want []string
	}{
		{"rover", nil, nil},
		{"rover", []string{"//ab/"}, []string{"//ab/", "//ab/a", "//ab/c", "//ab/e"}},
		{"scout", []string{"//ab/"}, []string{"//ab/", "//ab/b", "//ab/c", "//ab/d", "//ab/e"}},
		{"rover", []string{"//ab/e", "//ab/e"}, []string{"//ab/e"}},
		{"rover", []string{"//ab/b", "//ab/a/b", "//ef/", "//cd/x"}, nil},
		{"rover", []string{"//zz/", "what", "//zz", "//ZZ/", "", "//zz/a", "//zz/"}, []string{"//zz/", "//zz/a"}},
		{"rover", []string{"//cd/notice", "//ab/notice"}, []string{"//cd/notice", "//ab/notice"}},
		{"rover", []string{"//ef/notice", "//cd/notice"}, []string{"//cd/notice", "//ab/notice"}},
		{"rover", []string{"//ab/e", "//ab/c", "//ab/"}, []string{"//ab/e", "//ab/c", "//ab/", "//ab/a"}},
	} {
		wantReach(t, w, c.name, c.seeds, c.want)
	}
}

func TestWorldReachOfWhatLeadsToItself(t *testing.T) {
	round := []impl.Page{{Addr: "//ab/a", Lead: "//ab/b"}, {Addr: "//ab/b", Lead: "//cd/c"}, {Addr: "//cd/c", Lead: "//ab/a"}}
	wantReach(t, round, "rover", []string{"//ab/b"}, []string{"//ab/b", "//cd/c", "//ab/a"})
	alone := []impl.Page{{Addr: "//ab/a", Lead: "//ab/a", Fails: 2}}
	wantReach(t, alone, "rover", []string{"//ab/a"}, []string{"//ab/a"})
	alone[0].Fails = 3
	wantReach(t, alone, "rover", []string{"//ab/a"}, nil)
	links := []impl.Page{{Addr: "//ab/a", Text: "<><b>"}, {Addr: "//ab/b", Text: "<a><b><>"}}
	wantReach(t, links, "rover", []string{"//ab/a"}, []string{"//ab/a", "//ab/b"})
	notice := []impl.Page{{Addr: "//ab/notice", Lead: "//ab/notice"}}
	wantReach(t, notice, "rover", []string{"//ab/notice", "//ab/a"}, []string{"//ab/notice", "//ab/a"})
}

func TestWorldReachOfWhatAlwaysFails(t *testing.T) {
	for times := range mostFails + 1 {
		var page, notice []string
		if times < impl.TripTries {
			page, notice = []string{"//ab/a", "//ab/b"}, []string{"//ab/"}
		}
		wantReach(t, []impl.Page{{Addr: "//ab/a", Text: "<b>", Fails: times}}, "rover", []string{"//ab/a"}, page)
		wantReach(t, []impl.Page{{Addr: "//ab/notice", Fails: times}}, "rover", []string{"//ab/"}, notice)
	}
}

func TestWorldReachLimit(t *testing.T) {
	var seeds []string
	for i := range impl.WorldMax {
		seeds = append(seeds, "//zz/"+string(rune('a'+i)))
	}
	wantReach(t, nil, "abcdefgh", seeds, seeds)
	wantReach(t, nil, "abcdefgh", append(slices.Clone(seeds), "//zz/a"), nil)
	wantReach(t, nil, "abcdefgh", append(slices.Clone(seeds), "what"), nil)
	wantReach(t, nil, "abcdefgh", slices.Repeat([]string{"//zz/"}, impl.WorldMax), []string{"//zz/"})
	wantReach(t, nil, "abcdefgh", slices.Repeat([]string{"//zz/"}, impl.WorldMax+1), nil)
	last := "//ab/" + string(rune('a'+impl.WorldMax))
	got := impl.WorldReach(fullWorld(impl.WorldMax), "rover", []string{"//ab/a"})
	if len(got) != impl.WorldMax+1 || got[impl.WorldMax] != last {
		t.Errorf("in a world of %d pages one comes to %q", impl.WorldMax, got)
	}
	wantReach(t, fullWorld(impl.WorldMax+1), "rover", []string{"//ab/a"}, nil)
}

func TestWorldReachOfMoreThanATripHearsOf(t *testing.T) {
	at := read(t, "//ab/a")
	w := []impl.Page{{Addr: "//ab/a", Text: manyLinks()}, {Addr: "//ab/b", Text: "<@/b/>" + manyLinks()}, {Addr: "//ab/c", Text: "<@/c/x>" + manyLinks()}, {Addr: "//ab/d", Text: "<@/d/x>" + manyLinks()}}
	want := impl.PageAddrs(at, w[0].Text)
	for _, page := range w[2:] {
		want = append(want, impl.PageAddrs(at, page.Text)...)
	}
	if len(want) <= impl.TripMany {
		t.Fatalf("there are %d alone", len(want))
	}
	wantReach(t, w, "rover", []string{"//ab/a"}, want)
}

func TestWorldReachOfWrongInputs(t *testing.T) {
	seeds := []string{"//ab/", "//cd/x", "//zz/"}
	for _, w := range okWorlds() {
		for _, name := range wrongNames {
			wantReach(t, w, name, seeds, nil)
		}
		wantReach(t, w, "rover", notAddresses[:impl.WorldMax], nil)
		wantReach(t, w, "rover", notAddresses[len(notAddresses)-impl.WorldMax:], nil)
		wantReach(t, w, "rover", slices.Repeat(seeds, 400), nil)
	}
	for _, w := range wrongWorlds() {
		wantReach(t, w, "rover", seeds, nil)
	}
}

func TestWorldReachIsInOrder(t *testing.T) {
	longest := 0
	for _, c := range reachCases() {
		var want []string
		take := func(addrs []string) {
			for _, addr := range addrs {
				if isAddress(addr) && c.isOpen(addr) && !slices.Contains(want, addr) {
					want = append(want, addr)
				}
			}
		}
		take(c.seeds)
		for at := 0; at < len(want); at++ {
			take(impl.WorldFrom(c.w, want[at]))
		}
		wantReach(t, c.w, c.name, c.seeds, want)
		longest = max(longest, len(want))
	}
	if longest < impl.WorldMax {
		t.Errorf("one comes to at most %d addresses", longest)
	}
}

func TestP57AllInWorldReachIsLetDoesNotFailAndStandsThereOnce(t *testing.T) {
	for _, c := range reachCases() {
		got := c.reach()
		for i, addr := range got {
			if !isAddress(addr) || !c.isOpen(addr) || slices.Contains(got[:i], addr) {
				t.Errorf("WorldReach of %v is %q, with %q", c, got, addr)
			}
		}
	}
}

func TestP58SeedsAreInWorldReachJustIfTheyAreLetAndDoNotFail(t *testing.T) {
	in, out := 0, 0
	for _, c := range reachCases() {
		got := c.reach()
		for _, seed := range c.seeds {
			want := isAddress(seed) && c.isOpen(seed)
			if slices.Contains(got, seed) != want {
				t.Errorf("WorldReach of %v is %q; %q is to be in it: %v", c, got, seed, want)
			}
			if want {
				in++
			} else {
				out++
			}
		}
	}
	if min(in, out) < 1000 {
		t.Errorf("%d seeds are in it, %d are not", in, out)
	}
}

func TestP59FromWorldReachOneComesToNothingMore(t *testing.T) {
	for _, c := range reachCases() {
		got := c.reach()
		for _, addr := range got {
			for _, to := range impl.WorldFrom(c.w, addr) {
				if c.isOpen(to) && !slices.Contains(got, to) {
					t.Errorf("WorldReach of %v is %q, without %q", c, got, to)
				}
			}
		}
	}
}

func TestP60EachInWorldReachIsASeedOrOneComesToItFromOneAhead(t *testing.T) {
	led := 0
	for _, c := range reachCases() {
		got := c.reach()
		for i, addr := range got {
			if slices.Contains(c.seeds, addr) {
				continue
			}
			led++
			if !slices.ContainsFunc(got[:i], func(from string) bool { return slices.Contains(impl.WorldFrom(c.w, from), addr) }) {
				t.Errorf("WorldReach of %v is %q, with %q", c, got, addr)
			}
		}
	}
	if led < 1000 {
		t.Errorf("one is led to %d addresses alone", led)
	}
}

func TestP61WorldReachOfTwoListsTogetherIsThatOfBoth(t *testing.T) {
	for _, c := range reachCases() {
		want := asSet(c.reach())
		for cut := range len(c.seeds) + 1 {
			one := impl.WorldReach(c.w, c.name, c.seeds[:cut])
			two := impl.WorldReach(c.w, c.name, c.seeds[cut:])
			if got := asSet(slices.Concat(one, two)); !slices.Equal(got, want) {
				t.Errorf("WorldReach of %v is %q, but, cut at %d, %q", c, want, cut, got)
			}
		}
	}
}

func TestP62APageThatIsNotInWorldReachChangesNothing(t *testing.T) {
	left := 0
	for _, c := range reachCases() {
		want := c.reach()
		for i, page := range c.w {
			notice := slices.Equal(read(t, page.Addr).Parts, []string{"notice"})
			if slices.Contains(want, page.Addr) || notice || fails(c.w, page.Addr) {
				continue
			}
			left++
			wantReach(t, slices.Delete(slices.Clone(c.w), i, i+1), c.name, c.seeds, want)
			other := slices.Clone(c.w)
			other[i] = impl.Page{Addr: page.Addr, Text: "<//ab/a><//cd/a><//zz/>", Fails: 1}
			wantReach(t, other, c.name, c.seeds, want)
		}
	}
	if left < 1000 {
		t.Errorf("%d pages are left out", left)
	}
}
