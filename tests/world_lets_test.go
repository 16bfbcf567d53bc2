package tests

import (
	"slices"
	"testing"

	"loop.example/pedlar/impl"
)

// worldHouses are houses that a world is asked of; nothing stands at the last two.
var worldHouses = []string{"ab", "cd", "efghi", "ef", "z", "zzzzz"}

func TestWorldNoticeTold(t *testing.T) {
	w := toldWorld()
	rover, scout := []string{"rover"}, []string{"scout"}
	wantSaid(t, w, "ab", "rover", impl.Group{Names: rover, Rules: []impl.Rule{bar("/b")}, Wait: 2})
	wantSaid(t, w, "ab", "scout", impl.Group{Names: scout, Rules: []impl.Rule{bar("/a"), let("/a/b")}, Wait: 7})
	wantSaid(t, w, "cd", "rover", impl.Group{Names: rover})
	wantSaid(t, w, "ef", "rover", impl.Group{Names: rover, Rules: []impl.Rule{bar("/")}})
	wantSaid(t, w, "zz", "scout", impl.Group{Names: scout})
	wantSaid(t, nil, "abcde", "abcdefgh", impl.Group{Names: []string{"abcdefgh"}})
	elsewhere := []impl.Page{{Addr: "//ab/notice?", Text: "caller *\nbar /\n"}, {Addr: "//ab/a/notice", Text: "caller *\nbar /\n"}}
	wantSaid(t, elsewhere, "ab", "rover", impl.Group{Names: rover})
}

func TestWorldNoticeThatFailsSoOften(t *testing.T) {
	for times := range mostFails + 1 {
		want := impl.Group{Names: []string{"rover"}, Rules: []impl.Rule{bar("/a")}, Wait: 4}
		leads := impl.Group{Names: []string{"rover"}}
		if times >= impl.TripTries {
			want.Rules, want.Wait = []impl.Rule{bar("/")}, 0
			leads = want
		}
		wantSaid(t, []impl.Page{{Addr: "//ab/notice", Text: "caller *\nbar /a\nwait 4\n", Fails: times}}, "ab", "rover", want)
		wantSaid(t, []impl.Page{{Addr: "//ab/notice", Lead: "//ab/notice", Fails: times}}, "ab", "rover", leads)
	}
}

func TestWorldNoticeOfWrongInputs(t *testing.T) {
	for _, w := range okWorlds() {
		for _, name := range wrongNames {
			for _, house := range append(slices.Clone(wrongHouses), worldHouses...) {
				wantSaid(t, w, house, name, impl.Group{})
			}
		}
		for _, house := range wrongHouses {
			wantSaid(t, w, house, "rover", impl.Group{})
		}
	}
	for _, w := range wrongWorlds() {
		for _, house := range worldHouses {
			wantSaid(t, w, house, "rover", impl.Group{})
		}
	}
}

func TestP53WorldNoticeIsNoticeForOfWhatStandsThere(t *testing.T) {
	failed, told, none := 0, 0, 0
	for _, w := range okWorlds() {
		for _, house := range worldHouses {
			at := "//" + house + "/notice"
			page, _ := pageAt(w, at)
			for _, name := range worldNames {
				want := impl.NoticeFor(impl.NoticeRead(page.Text), name)
				switch {
				case fails(w, at):
					want = impl.Group{Names: []string{name}, Rules: []impl.Rule{bar("/")}}
					failed++
				case len(want.Rules) > 0:
					told++
				default:
					none++
				}
				wantSaid(t, w, house, name, want)
			}
		}
	}
	if min(failed, told, none) < 100 {
		t.Errorf("%d notices fail, %d have rules, %d have none", failed, told, none)
	}
}

func TestP53ItBarsAllIfThatFailsAtLast(t *testing.T) {
	for _, w := range okWorlds() {
		for _, addr := range lookups(w) {
			if fails(w, "//"+read(t, addr).House+"/notice") {
				wantLets(t, w, "rover", addr, false)
				wantLets(t, w, "scout", addr, false)
			}
		}
	}
}

func TestWorldLetsTold(t *testing.T) {
	w := toldWorld()
	for _, c := range []struct {
		name, addr string
		want       bool
	}{
		{"rover", "//ab/", true},
		{"rover", "//ab/a", true},
		{"rover", "//ab/b", false},
		{"rover", "//ab/b/c?q", false},
		{"rover", "//AB/x/../%62#z", false},
		{"rover", "//AB", true},
		{"scout", "//ab/b", true},
		{"scout", "//ab/a", false},
		{"scout", "//ab/a/b", true},
		{"scout", "//ab/a?b", false},
		{"rover", "//cd/b", true},
		{"rover", "//ef/", false},
		{"rover", "//EF/notice", false},
		{"rover", "//zz/b", true},
		{"abcdefgh", "//ab/b", false},
	} {
		wantLets(t, w, c.name, c.addr, c.want)
	}
}

func TestWorldLetsOfWrongInputs(t *testing.T) {
	for _, w := range okWorlds() {
		for _, name := range wrongNames {
			for _, addr := range lookups(w) {
				wantLets(t, w, name, addr, false)
			}
		}
		for _, raw := range append(slices.Clone(notAddresses), "//ab/"+xs(impl.AddrMax-4)) {
			if _, ok := impl.AddrRead(raw); !ok {
				wantLets(t, w, "rover", raw, false)
			}
		}
	}
	for _, w := range wrongWorlds() {
		for _, addr := range lookups(w) {
			wantLets(t, w, "rover", addr, false)
		}
	}
}

func TestP54WorldLetsIsRuleLetsOfWorldNotice(t *testing.T) {
	let, barred := 0, 0
	for _, w := range okWorlds() {
		for _, raw := range append(lookups(w), notAddresses...) {
			a, ok := impl.AddrRead(raw)
			for _, name := range worldNames {
				want := ok && lets(impl.WorldNotice(w, a.House, name).Rules, impl.AddrPath(a))
				wantLets(t, w, name, raw, want)
				if want {
					let++
				} else if ok {
					barred++
				}
			}
		}
	}
	if min(let, barred) < 1000 {
		t.Errorf("%d are let, %d are barred", let, barred)
	}
}
