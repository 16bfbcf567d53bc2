package tests

import (
	"fmt"
	"regexp"
	"slices"
	"strings"
	"sync"
	"testing"

	"loop.example/pedlar/impl"
)

// linesBytes is how many bytes are read at most; the document gives it no name.
const linesBytes = 1500

// What is told of a text that is no trip.
const (
	toldLong    = "too long\n"
	toldNobody  = "nobody\n"
	toldNoWorld = "no world\n"
	toldDone    = "done\n"
)

// linesTold is a text that tells of each kind of call, and linesTrip what is told of it.
const (
	linesTold = "rover //ab/ //cd/x\n//ab/notice says caller *|bar /b|wait 3|\n//ab/ says <a><b> <c d>\n//ab/a leads //ef/\n//cd/x fails\n//ef/notice fails\n"
	linesTrip = "0 //ab/notice page\n0 //cd/notice none\n1 //cd/x fails\n3 //ab/ page\n4 //cd/x fails\n6 //ab/a leads\n6 //ef/notice fails\n9 //ab/c%20d none\n9 //cd/x fails\n9 //ef/notice fails\n14 //ef/notice fails\ndone\n"
)

// noWords are lines without a word that is one; those with such a word elsewhere would be no world, or change one.
var noWords = []string{
	"", " ", "  ", "what", "x what", "zz", "//ab/", "//ab/ ", "//ab/  ",
	"says", "leads", "fails", "says ", "fails //ab/ ", "says //ab/ <c>", "leads //ab/ //cd/",
	"zz what says a", "//ab/  says <c>", " //ab/ says <c>", "  says <c>", "//ab/\tsays <c>", "//ab/ says\t<c>", "//ab/ says|<c>", "//ab/|fails",
	"//ab/c Says <c>", "//ab/c SAYS <c>", "//ab/c say <c>", "//ab/c sayss <c>", "//ab/c says\r", "//ab/c saysleads //cd/", "//ab/c \x00says a",
	"//ab/c Leads //cd/", "//ab/c lead //cd/", "//ab/c leads, //cd/", "//ab/c Fails", "//ab/c fail", "//ab/c fails9", "//ab/c fails\r", "//ab/c fails\x00",
	"//ab/c page", "//ab/c none a", "//ab/c done", "rover //ab/", "rover //cd/ //ef/", "caller *", "//zz/notice bar /", "\xff", "\xff \xff \xff", "# a word", "//ab/a #",
}

// lineCases are trips in worlds that lines can tell of: what fails there always does, and says nothing else.
var lineCases = sync.OnceValue(func() []reachCase {
	var all []reachCase
	for _, c := range reachCases() {
		w := slices.Clone(c.w)
		for i, page := range w {
			w[i].Fails = 0
			if page.Fails >= impl.TripTries {
				w[i] = impl.Page{Addr: page.Addr, Fails: mostFails}
			}
		}
		all = append(all, reachCase{w, c.name, c.seeds})
	}
	return all
})

// firstLine is who calls, and from where on.
func firstLine(name string, seeds ...string) string {
	return strings.Join(append([]string{name}, seeds...), " ") + "\n"
}

// pageLines is a line for each page of a world.
func pageLines(w []impl.Page) []string {
	var lines []string
	for _, page := range w {
		line := page.Addr + " says " + strings.ReplaceAll(page.Text, "\n", "|")
		switch {
		case page.Fails > 0:
			line = page.Addr + " fails"
		case page.Lead != "":
			line = page.Addr + " leads " + page.Lead
		}
		lines = append(lines, line+"\n")
	}
	return lines
}

// linesOf is a text that tells of a trip.
func linesOf(c reachCase) string {
	return firstLine(c.name, c.seeds...) + strings.Join(pageLines(c.w), "")
}

// tripTold is what must be told of a trip.
func tripTold(c reachCase) string {
	trip, ok := impl.TripNew(c.name, c.seeds)
	if !ok {
		return toldNobody
	}
	trip, ok = impl.TripRun(c.w, trip, mostCalls)
	if !ok {
		return toldNoWorld
	}
	told := ""
	for _, look := range trip.Looks {
		told += fmt.Sprintln(look.Time, look.Addr, []string{"none", "page", "leads", "fails"}[look.Kind])
	}
	if !impl.TripDone(trip) {
		return told + "not done\n"
	}
	return told + toldDone
}

// A caller's name is what stands ahead of the first blank, a seed what stands behind each; a line that counts has its word between the first two.
var (
	namePart = regexp.MustCompile(`\A[^ ]*`)
	seedPart = regexp.MustCompile(` ([^ ]*)`)
	wordLine = regexp.MustCompile(`(?s)\A([^ ]*) (says|leads|fails)(?: (.*))?\z`)
)

// caseOf is the trip that a text tells of.
func caseOf(text string) reachCase {
	lines := strings.Split(text, "\n")
	c := reachCase{name: namePart.FindString(lines[0])}
	for _, found := range seedPart.FindAllStringSubmatch(lines[0], -1) {
		c.seeds = append(c.seeds, found[1])
	}
	for _, line := range lines[1:] {
		found := wordLine.FindStringSubmatch(line)
		if found == nil {
			continue
		}
		page := impl.Page{Addr: found[1]}
		switch found[2] {
		case "says":
			page.Text = strings.Join(strings.Split(found[3], "|"), "\n")
		case "leads":
			page.Lead = found[3]
		default:
			page.Fails = mostFails
		}
		c.w = append(c.w, page)
	}
	return c
}

// oddTexts are texts of all sorts, most of them with something wrong.
var oddTexts = sync.OnceValue(func() []string {
	firsts := []string{"rover //ab/", "rover //ab/", "scout //ab/ //cd/x", "rover", "abcdefgh //ab/ //cd/", "rover //ab/ what //AB/ //ab/", "rover  //ab/", "rover //ab/ ", " rover //ab/", "Rover //ab/", "", "rover\t//ab/", "rover\r"}
	addrs := []string{"//ab/", "//ab/a", "//ab/b", "//ab/notice", "//cd/x", "//cd/notice", "//ab/", "//ab/a", "//AB/", "zz", ""}
	words := []string{"says", "says", "leads", "fails", "what", "", "Says", "fail", "page", "says\t"}
	rests := []string{"", "<a>|<b>", "<a> <b c>", "//ab/a", "//cd/x", "caller *|bar /b|wait 3", "caller rover|wait 2|", " ", "|", "a <//cd/x> says b"}
	blanks := []string{" ", " ", " ", " ", " ", "  ", "\t"}
	d := &dice{at: 11}
	var all []string
	for i := range 4000 {
		text := pick(d, firsts)
		for range i % 5 {
			text += "\n" + pick(d, addrs)
			if d.roll(10) > 0 {
				text += pick(d, blanks) + pick(d, words)
			}
			if d.roll(3) > 0 {
				text += pick(d, blanks) + pick(d, rests)
			}
		}
		all = append(all, text+pick(d, []string{"", "\n", "\n\n"}))
	}
	return all
})

// wantLines says what must be told of a text.
func wantLines(t *testing.T, text, want string) {
	t.Helper()
	if got := impl.LinesRun(text); got != want {
		t.Errorf("LinesRun(%.200q) = %q, not %q", text, got, want)
	}
}
