package tests

import (
	"regexp"
	"slices"
	"strings"
	"sync"
	"testing"

	"loop.example/pedlar/impl"
)

func TestLinesRunTold(t *testing.T) {
	for _, c := range []struct{ text, want string }{
		{linesTold, linesTrip},
		{"rover //ab/", "0 //ab/notice none\n1 //ab/ none\ndone\n"},
		{"rover //ab/\n//ab/ leads //cd/\n", "0 //ab/notice none\n1 //ab/ leads\n1 //cd/notice none\n2 //cd/ none\ndone\n"},
		{"rover //ab/\n//ab/ fails\n", "0 //ab/notice none\n1 //ab/ fails\n4 //ab/ fails\n9 //ab/ fails\ndone\n"},
		{"rover //ab/\n//ab/notice fails\n", "0 //ab/notice fails\n3 //ab/notice fails\n8 //ab/notice fails\ndone\n"},
		{"rover //ab/\n//ab/notice leads //cd/\n", "0 //ab/notice leads\n1 //ab/ none\ndone\n"},
		{"rover //ab/\n//ab/notice says caller rover|bar /|\n", "0 //ab/notice page\ndone\n"},
		{"scout //ab/\n//ab/notice says caller rover|bar /|\n", "0 //ab/notice page\n1 //ab/ none\ndone\n"},
		{"rover //cd/ //ab/ //cd/", "0 //cd/notice none\n0 //ab/notice none\n1 //cd/ none\n1 //ab/ none\ndone\n"},
		{"rover //ab/ what //AB/ //ab", "0 //ab/notice none\n1 //ab/ none\ndone\n"},
		{"rover  //ab/ ", "0 //ab/notice none\n1 //ab/ none\ndone\n"},
		{"rover //ab/\r\n", "done\n"},
		{"rover //ab/|//cd/\n", "done\n"},
	} {
		wantLines(t, c.text, c.want)
	}
}

func TestLinesRunOfTheRest(t *testing.T) {
	begin, done := "rover //ab/\n//ab/ ", "done\n"
	notice := "0 //ab/notice none\n1 //ab/ "
	for _, c := range []struct{ line, want string }{
		{"says", "page\n"},
		{"says ", "page\n"},
		{"says  ", "page\n"},
		{"says |", "page\n"},
		{"says says <a>", "page\n2 //ab/a none\n"},
		{"says  <a>", "page\n2 //ab/a none\n"},
		{"says <a> fails", "page\n2 //ab/a none\n"},
		{"says < a  b >", "page\n2 //ab/%20a%20%20b%20 none\n"},
		{"says <a|b||c>", "page\n2 //ab/a%0Ab%0A%0Ac none\n"},
		{"says <\xff><\x00>", "page\n2 //ab/%FF none\n3 //ab/%00 none\n"},
		{"leads", "page\n"},
		{"leads ", "page\n"},
		{"leads //ab/a", "leads\n2 //ab/a none\n"},
		{"leads //ab/", "leads\n"},
		{"fails", "fails\n4 //ab/ fails\n9 //ab/ fails\n"},
		{"fails ", "fails\n4 //ab/ fails\n9 //ab/ fails\n"},
		{"fails 0", "fails\n4 //ab/ fails\n9 //ab/ fails\n"},
		{"fails //ab/a says <b>", "fails\n4 //ab/ fails\n9 //ab/ fails\n"},
	} {
		wantLines(t, begin+c.line, notice+c.want+done)
		wantLines(t, begin+c.line+"\n", notice+c.want+done)
		wantLines(t, begin+c.line+"\n\n//ab/", notice+c.want+done)
	}
}

func TestLinesRunIsTripRun(t *testing.T) {
	told := ""
	for _, c := range lineCases() {
		text := linesOf(c)
		if len(text) > linesBytes {
			wantLines(t, text, toldLong)
			continue
		}
		want := tripTold(c)
		wantLines(t, text, want)
		wantLines(t, strings.TrimSuffix(text, "\n"), want)
		told += want
	}
	for _, kind := range []string{"none", "page", "leads", "fails"} {
		if !strings.Contains(told, " "+kind+"\n") {
			t.Errorf("no trip has a call that is %q", kind)
		}
	}
}

func TestLinesRunOfOddTexts(t *testing.T) {
	times := map[string]int{}
	for _, text := range oddTexts() {
		want := tripTold(caseOf(text))
		wantLines(t, text, want)
		times[want]++
	}
	if times[toldNobody] == 0 || times[toldNoWorld] == 0 || times[toldDone] == 0 || len(times) < 20 {
		t.Errorf("odd texts are told too little: %v", times)
	}
}

func TestLinesRunOfNoWorld(t *testing.T) {
	var lines []string
	for _, text := range notAddresses {
		lines = append(lines, text+" says a", text+" leads //ab/", text+" fails")
		if text != "" {
			lines = append(lines, "//cd/z leads "+text)
		}
	}
	lines = append(lines, "zz says a", " says a", " fails", "says says a", "//cd/z leads //ab/ a", "//cd/z leads  //ab/", "//cd/z leads //ab/\r", "//cd/z leads //ab/|", "\xff fails")
	for _, word := range []string{"says", "says <a>", "leads //ab/", "fails"} {
		lines = append(lines, "//cd/z fails\n//cd/z "+word, "//cd/z "+word+"\n//cd/z "+word, "//cd/z says\n//cd/y says\n//cd/z "+word)
	}
	for _, line := range lines {
		for _, first := range []string{"rover //ab/\n", "rover\n", "rover what\n"} {
			wantLines(t, first+line, toldNoWorld)
			wantLines(t, first+"//ab/ says <a>\n"+line+"\n//ab/a fails\n", toldNoWorld)
		}
		wantLines(t, "Rover //ab/\n"+line, toldNobody)
	}
}

func TestLinesRunPageLimits(t *testing.T) {
	begin, told := "rover //ab/\n", "0 //ab/notice none\n1 //ab/ page\ndone\n"
	for _, with := range []string{"x", "|", " ", "\xff"} {
		wantLines(t, begin+"//ab/ says "+strings.Repeat(with, impl.PageMax), told)
		wantLines(t, begin+"//ab/ says "+strings.Repeat(with, impl.PageMax+1), toldNoWorld)
	}
	long := "//ab/" + xs(impl.AddrMax-5)
	calls := "0 //ab/notice none\n1 //ab/ leads\n2 " + long + " "
	wantLines(t, begin+"//ab/ leads "+long, calls+"none\ndone\n")
	wantLines(t, begin+"//ab/ leads "+long+"\n"+long+" says", calls+"page\ndone\n")
	wantLines(t, begin+"//ab/ leads "+long+"x", toldNoWorld)
	wantLines(t, begin+long+"x says", toldNoWorld)
	wantLines(t, "rover "+long, "0 //ab/notice none\n1 "+long+" none\ndone\n")
	wantLines(t, "rover "+long+"x", toldDone)
}

func TestLinesRunManyLimits(t *testing.T) {
	many := pageLines(fullWorld(impl.WorldMax + 1))
	full := strings.Join(many[:impl.WorldMax], "")
	wantLines(t, "rover //ab/a\n"+full, tripTold(reachCase{fullWorld(impl.WorldMax), "rover", []string{"//ab/a"}}))
	wantLines(t, "rover //ab/a\n"+full+many[impl.WorldMax], toldNoWorld)
	wantLines(t, "rover\n"+full+strings.Repeat("//zz/ what\n", 50), toldDone)
	seeds := seenOf(impl.WorldMax)
	wantLines(t, firstLine("abcdefgh", seeds...), tripTold(reachCase{nil, "abcdefgh", seeds}))
	for _, more := range []string{"", "what", "//zz/aa", "//cd/"} {
		text := firstLine("rover", append(slices.Clone(seeds), more)...)
		wantLines(t, text, toldNobody)
		wantLines(t, text+"zz says a\n", toldNobody)
	}
	wantLines(t, "rover"+strings.Repeat(" ", impl.WorldMax), toldDone)
	wantLines(t, "rover"+strings.Repeat(" ", impl.WorldMax+1), toldNobody)
}

func TestLinesRunOfALongTrip(t *testing.T) {
	var marks [2]string
	for i := range impl.TripMany {
		marks[i%2] += marksOf("//" + string(rune('a'+i/26)) + string(rune('a'+i%26)))
	}
	text := "rover //ab/ //ac/x\n//ab/ says " + marks[0] + "\n//ac/x says " + marks[1] + "\n//ac/notice says caller *|wait 20\n//ad/ fails\n//ae/notice fails\n"
	want := tripTold(caseOf(text))
	if calls := strings.Count(want, "\n") - 1; len(text) > linesBytes || calls < impl.TripMany*2 || !strings.HasSuffix(want, "\n"+toldDone) {
		t.Fatalf("%d bytes, %d calls: %q is told %q", len(text), calls, text, want)
	}
	wantLines(t, text, want)
}

func TestLinesRunOfManyLines(t *testing.T) {
	first, others, _ := strings.Cut(linesTold, "\n")
	for _, none := range []string{"", " ", "x"} {
		fits := (linesBytes - len(linesTold)) / (len(none) + 1)
		lines := strings.Repeat("\n"+none, fits)
		wantLines(t, first+lines+"\n"+others, linesTrip)
		wantLines(t, first+"\n"+others+lines, linesTrip)
	}
}

func TestNothingIsKeptOfLines(t *testing.T) {
	texts := append([]string{linesTold, "", "rover\nzz says a", xs(linesBytes + 1), "rover"}, oddTexts()[:100]...)
	var answers []string
	for _, text := range texts {
		answers = append(answers, impl.LinesRun(text))
	}
	for i := range texts {
		at := len(texts) - 1 - i
		wantLines(t, texts[at], answers[at])
	}
	var callers sync.WaitGroup
	for i, text := range texts {
		callers.Go(func() { wantLines(t, text, answers[i]) })
	}
	callers.Wait()
}

// toldLines is what any text may be told: calls, and whether that is all, or why there are none.
var toldLines = regexp.MustCompile(`\A(?:(?:(?:0|[1-9][0-9]*) //[a-z]+/[^ \n]* (?:none|page|leads|fails)\n)*(?:not )?done|too long|nobody|no world)\n\z`)

func TestP107ATextIsToldAtLeastOneLine(t *testing.T) {
	texts := slices.Concat(oddTexts(), noWords, rawAddrs()[:3000], noticeTexts, pageTexts, []string{linesTold, linesTrip})
	for b := range 256 {
		one := string([]byte{byte(b)})
		texts = append(texts, one, "rover //ab/"+one, "rover //ab/\n"+one, "rover //ab/\n//ab/"+one+"says a", "rover //ab/\n//ab/ says "+one)
		for size := linesBytes - 1; size <= linesBytes+1; size++ {
			texts = append(texts, strings.Repeat(one, size))
		}
	}
	for _, c := range lineCases() {
		texts = append(texts, linesOf(c))
	}
	for _, text := range texts {
		if got := impl.LinesRun(text); !toldLines.MatchString(got) {
			t.Errorf("LinesRun(%.200q) = %q", text, got)
		}
	}
}

func TestP108LinesWithoutAWordThatIsOneChangeNothing(t *testing.T) {
	bases := []string{linesTold, "rover\n", "rover //ab/\n", "Rover //ab/\n//ab/ says a\n", "rover //ab/\nzz says a\n", "\n"}
	for i, c := range lineCases() {
		if text := linesOf(c); i%100 == 0 && len(text) < linesBytes-50 {
			bases = append(bases, text)
		}
	}
	for _, base := range bases {
		want := impl.LinesRun(base)
		lines := strings.SplitAfter(base, "\n")
		for _, none := range noWords {
			for at := 1; at <= len(lines); at++ {
				more := slices.Insert(slices.Clone(lines), at, none+"\n")
				wantLines(t, strings.Join(more, ""), want)
			}
			wantLines(t, base+none, want)
		}
	}
	for i := range noWords {
		first, all := firstLine("rover", "//ab/", "//cd/x"), slices.Concat(noWords[i:], noWords[:i])
		mixed := first
		for at, line := range strings.SplitAfter(strings.TrimPrefix(linesTold, first), "\n") {
			mixed += strings.Join(all[at*4:at*4+4], "\n") + "\n" + line
		}
		wantLines(t, mixed, linesTrip)
	}
}

func TestP109WithoutACallersNameItIsNobody(t *testing.T) {
	seeds := []string{"", " ", " //ab/", " //ab/ //cd/x", " rover", " rover //ab/", "\t//ab/", "\r"}
	for _, name := range []string{"", "*", "Rover", "roveR", "rover1", "abcdefghi", "rover,", "`", "{", "\xe4", "\x00", "\t", "\trover", "rover\r", "//ab/", "rover|scout"} {
		for _, rest := range seeds {
			for _, world := range []string{"", "\n", "\nrover //ab/\n", "\n//ab/ says a\n", "\nzz says a\n", strings.TrimPrefix(linesTold, "rover")} {
				wantLines(t, name+rest+world, toldNobody)
			}
		}
	}
	for _, name := range []string{"a", "z", "rover", "abcdefgh"} {
		wantLines(t, name+" //ab/", "0 //ab/notice none\n1 //ab/ none\ndone\n")
	}
}

func TestP110WithoutSeedsItIsDoneAtOnce(t *testing.T) {
	for i, c := range lineCases() {
		lines := strings.Join(pageLines(c.w), "")
		if i%8 != 0 || len(lines) > linesBytes-20 {
			continue
		}
		for _, first := range []string{"rover", "a", "abcdefgh", "rover ", "rover   ", "rover what", "rover //AB/ //ab"} {
			wantLines(t, first+"\n"+lines, toldDone)
		}
	}
	for _, first := range []string{"rover", "rover\n", "rover \n\n", "rover\nwhat", "rover\nrover //ab/"} {
		wantLines(t, first, toldDone)
	}
}

func TestP111MoreThan1500BytesAreTooLong(t *testing.T) {
	for _, text := range []string{linesTold, "rover //ab/\n", "rover\n", "Rover //ab/\n", "rover\nzz says a\n", "", "\n", " "} {
		want := impl.LinesRun(text + "\n")
		if want == toldLong {
			t.Errorf("%q is too long", text)
		}
		for _, with := range []string{"\n", "x", " ", "\x00", "\xff", "|"} {
			for size := linesBytes - 2; size <= linesBytes+2; size++ {
				padded := text + "\n" + strings.Repeat(with, size-len(text)-1)
				if size <= linesBytes {
					wantLines(t, padded, want)
				} else {
					wantLines(t, padded, toldLong)
				}
			}
			wantLines(t, text+strings.Repeat(with, 100000), toldLong)
		}
	}
	// What is one byte too many counts, be it the caller's name, a page that is none, or the end of the last line.
	letters := strings.Repeat("a", linesBytes)
	wantLines(t, letters, toldNobody)
	wantLines(t, letters+"a", toldLong)
	wantLines(t, letters+"\n", toldLong)
	page := "rover //ab/\n//ab/ says "
	wantLines(t, page+xs(linesBytes-len(page)), toldNoWorld)
	wantLines(t, page+xs(linesBytes-len(page)+1), toldLong)
}
