package tests

import (
	"slices"
	"strings"
	"testing"

	"loop.example/pedlar/impl"
)

// atLast is how often one has called ahead of the last call.
const atLast = impl.TripTries - 1

// mostFails is how often a page fails at most.
const mostFails = 9

// worldNames are callers: one that notices here name, and one that they do not.
var worldNames = []string{"rover", "scout"}

// wrongNames are texts that are no caller's name.
var wrongNames = []string{"", "*", "Rover", "rover1", "rover ", " rover", "abcdefghi", "a\n", "`", "{", "\xe4"}

// wrongHouses are texts that are no house.
var wrongHouses = []string{"", "AB", "aB", "a1", "ab/", "//ab", "a.", "%61", "abcdef", "a\n", "`", "{", "\xe4"}

// notAddresses are texts that are no address: what is read as one, but written in another way, and what is not read.
var notAddresses = []string{"//AB/", "//ab", "//ab//", "//ab/.", "//ab/a/", "//ab/%61", "//ab/x/../a", "//ab/#", "//ab/a?A", "//ab/%7e", "", "what", "/", "//", "//1/", "//abcdef/", "//ab/%", "//ab/%2f?%", "//ab/a/b/c/d/e/f", "ab/a", "\xff"}

// worldAddrs are addresses of three houses, notices among them.
var worldAddrs = []string{"//ab/", "//ab/notice", "//ab/a", "//ab/b", "//ab/a/b", "//ab/a?q", "//cd/", "//cd/notice", "//cd/x", "//cd/a", "//efghi/", "//efghi/notice", "//efghi/a", "//ab/notice?", "//cd/a/notice"}

// noticeTexts are what stands at notices: of names, of the star, of nothing, and with a line too many.
var noticeTexts = []string{
	"",
	"<a><//cd/>",
	"caller *\nbar /b\nwait 2\n",
	"caller rover\nbar /\nlet /a\ncaller *\nbar /notice\n",
	"caller rover\nwait 20\ncaller rover\nbar /*b\nwait 3\ncaller scout\nbar /$\n",
	"caller *\nbar /\n",
	"bar /\ncaller *\nbar /a$\nlet /\n",
	"caller *\n" + strings.Repeat("\n", noticeLines-1) + "bar /\n",
	"caller *\n" + strings.Repeat("\n", noticeLines-2) + "bar /\n",
	"caller b\ncaller rover\nbar /*?\n<@//cd/x/y><z>(<a>)",
}

// pageTexts are what stands elsewhere: links to others, to itself, by a base, and to what is none.
var pageTexts = []string{"", "a", "<>", "<#><><.>", "<a><b><//cd/x>", "<..><?q><a/b>", "<@//cd/y><x><notice></a>", "(<a>)<!b>", "<//CD><//ab/x/../a><//efghi/>", "<%><//1><//abcdef/>", "</notice><a/b><b>", "<//ab/a><//ab/b><//cd/a><//efghi/a><//ab/notice>"}

// dice makes numbers that look like none in particular, and are the same each time.
type dice struct {
	at uint64
}

func (d *dice) roll(most int) int {
	d.at = d.at*6364136223846793005 + 1442695040888963407
	return int((d.at >> 33) % uint64(most))
}

func pick(d *dice, texts []string) string {
	return texts[d.roll(len(texts))]
}

// rolledPage is what may stand at an address.
func rolledPage(d *dice, addr string) impl.Page {
	page := impl.Page{Addr: addr, Fails: []int{0, 0, 0, 0, 1, 2, 2, 3, 4, mostFails}[d.roll(10)]}
	switch {
	case d.roll(5) == 0:
		page.Lead = pick(d, worldAddrs)
	case strings.HasSuffix(addr, "/notice"):
		page.Text = pick(d, noticeTexts)
	default:
		page.Text = pick(d, pageTexts)
	}
	return page
}

// rolledWorld is a world of so many pages.
func rolledWorld(d *dice, pages int) []impl.Page {
	left := slices.Clone(worldAddrs)
	var w []impl.Page
	for range pages {
		at := d.roll(len(left))
		w = append(w, rolledPage(d, left[at]))
		left = slices.Delete(left, at, at+1)
	}
	return w
}

// fullWorld is a world of so many pages, each of which leads to the next one.
func fullWorld(pages int) []impl.Page {
	var w []impl.Page
	for i := range pages {
		at := string(rune('a' + i))
		w = append(w, impl.Page{Addr: "//ab/" + at, Text: marksOf(string(rune('a' + i + 1)))})
	}
	return w
}

// toldWorld is a world whose answers are written out in tests.
func toldWorld() []impl.Page {
	return []impl.Page{
		{Addr: "//ab/notice", Text: "caller *\nbar /b\nwait 2\ncaller scout\nbar /a\nlet /a/b\nwait 7\n", Fails: 2},
		{Addr: "//ab/", Text: "<a><b><//cd/x><c><>"},
		{Addr: "//ab/a", Lead: "//ab/c"},
		{Addr: "//ab/b", Text: "<d>"},
		{Addr: "//ab/c", Text: "<..><a/b><b/../e>", Fails: 2},
		{Addr: "//ab/e", Lead: "//ab/e", Fails: 1},
		{Addr: "//cd/x", Text: "<y>", Fails: 3},
		{Addr: "//cd/notice", Lead: "//ab/notice"},
		{Addr: "//ef/notice", Text: "caller *\nlet /\n", Fails: 3},
		{Addr: "//ef/", Text: "<//ab/>"},
		{Addr: "//ab/a/b", Lead: "//ef/", Fails: mostFails},
	}
}

// okWorlds are worlds of each size.
func okWorlds() [][]impl.Page {
	all := [][]impl.Page{nil, {}, toldWorld(), fullWorld(impl.WorldMax), {{Addr: "//ab/" + xs(impl.AddrMax-5), Text: fullPage(impl.PageMax), Fails: mostFails}}}
	d := &dice{}
	for i := range 300 {
		all = append(all, rolledWorld(d, 1+i%impl.WorldMax))
	}
	return all
}

// wrongPages are pages that may not stand in a world, for one reason each.
func wrongPages() []impl.Page {
	all := []impl.Page{
		{},
		{Addr: "//cd/z", Text: xs(impl.PageMax + 1)},
		{Addr: "//cd/z", Fails: -1},
		{Addr: "//cd/z", Fails: mostFails + 1},
		{Addr: "//cd/z", Lead: "//ab/a", Text: "a"},
		{Addr: "//cd/z", Lead: "//cd/z", Text: "<>", Fails: 3},
		{Addr: "//ab/" + xs(impl.AddrMax-4)},
		{Addr: "//cd/z", Lead: "//ab/" + xs(impl.AddrMax-4)},
	}
	for _, text := range notAddresses {
		all = append(all, impl.Page{Addr: text, Text: "a"})
		if text != "" {
			all = append(all, impl.Page{Addr: "//cd/z", Lead: text})
		}
	}
	return all
}

// wrongWorlds are pages that are no world, ones that would do otherwise among them.
func wrongWorlds() [][]impl.Page {
	all := [][]impl.Page{
		fullWorld(impl.WorldMax + 1),
		{{Addr: "//ab/", Text: "<a>"}, {Addr: "//ab/", Text: "<a>"}},
		{{Addr: "//ab/", Text: "<a>"}, {Addr: "//ab/a"}, {Addr: "//ab/", Lead: "//ab/a"}},
	}
	for _, page := range wrongPages() {
		told := toldWorld()
		all = append(all, append(told, page), append([]impl.Page{page}, told...))
	}
	return all
}

// lookups are addresses that a world is asked of: its own, and others.
func lookups(w []impl.Page) []string {
	all := append(slices.Clone(worldAddrs), "//ab/c", "//ab/e", "//ef/", "//zz/", "//zz/notice", "//ab/"+xs(impl.AddrMax-5))
	for _, page := range w {
		if !slices.Contains(all, page.Addr) {
			all = append(all, page.Addr)
		}
	}
	return all
}

// pageAt is what stands at an address, found by going by all pages.
func pageAt(w []impl.Page, addr string) (impl.Page, bool) {
	at := slices.IndexFunc(w, func(page impl.Page) bool { return page.Addr == addr })
	if at < 0 {
		return impl.Page{}, false
	}
	return w[at], true
}

// fails says whether all calls that one makes at an address fail.
func fails(w []impl.Page, addr string) bool {
	page, stands := pageAt(w, addr)
	return stands && page.Fails >= impl.TripTries
}

func isAddress(text string) bool {
	a, ok := impl.AddrRead(text)
	return ok && impl.AddrText(a) == text
}

// wantGet says what one must get at an address.
func wantGet(t *testing.T, w []impl.Page, addr string, tries, kind int, text string) {
	t.Helper()
	if gotKind, got := impl.WorldGet(w, addr, tries); gotKind != kind || got != text {
		t.Errorf("WorldGet(%v, %q, %d) = %d, %q, not %d, %q", w, addr, tries, gotKind, got, kind, text)
	}
}

// wantSaid says what a house's notice must say to a caller.
func wantSaid(t *testing.T, w []impl.Page, house, name string, want impl.Group) {
	t.Helper()
	if got := impl.WorldNotice(w, house, name); !sameGroup(got, want) {
		t.Errorf("WorldNotice(%v, %q, %q) = %v, not %v", w, house, name, got, want)
	}
}

// wantLets says whether a caller must be let.
func wantLets(t *testing.T, w []impl.Page, name, addr string, want bool) {
	t.Helper()
	if got := impl.WorldLets(w, name, addr); got != want {
		t.Errorf("WorldLets(%v, %q, %q) = %v", w, name, addr, got)
	}
}

// wantFrom says where one must come from an address.
func wantFrom(t *testing.T, w []impl.Page, addr string, want []string) {
	t.Helper()
	if got := impl.WorldFrom(w, addr); !slices.Equal(got, want) {
		t.Errorf("WorldFrom(%v, %q) = %q, not %q", w, addr, got, want)
	}
}

// wantReach says what a caller must come to.
func wantReach(t *testing.T, w []impl.Page, name string, seeds, want []string) {
	t.Helper()
	if got := impl.WorldReach(w, name, seeds); !slices.Equal(got, want) {
		t.Errorf("WorldReach(%v, %q, %q) = %q, not %q", w, name, seeds, got, want)
	}
}
