package tests

import (
	"slices"
	"strings"
	"testing"

	"loop.example/pedlar/impl"
)

func TestNoticeReadTold(t *testing.T) {
	for _, c := range []struct {
		text string
		want []impl.Group
	}{
		{"", nil},
		{"\n\n", nil},
		{"bar /\nwait 5\n", nil},
		{"caller a", []impl.Group{{Names: []string{"a"}}}},
		{"caller *", []impl.Group{{Names: []string{"*"}}}},
		{"caller a\ncaller b\ncaller a", []impl.Group{{Names: []string{"a", "b", "a"}}}},
		{"caller a\ncaller *\nbar /", []impl.Group{{Names: []string{"a", "*"}, Rules: []impl.Rule{bar("/")}}}},
		{"caller a\nbar /\ncaller b\nlet /\n", []impl.Group{{Names: []string{"a"}, Rules: []impl.Rule{bar("/")}}, {Names: []string{"b"}, Rules: []impl.Rule{let("/")}}}},
		{"caller a\nbar /\ncaller a\ncaller c\nlet /\n", []impl.Group{{Names: []string{"a"}, Rules: []impl.Rule{bar("/")}}, {Names: []string{"a", "c"}, Rules: []impl.Rule{let("/")}}}},
		{"caller a\nwait 7\ncaller b", []impl.Group{{Names: []string{"a"}, Wait: 7}, {Names: []string{"b"}}}},
		{"caller a\nwait 0\ncaller b", []impl.Group{{Names: []string{"a"}}, {Names: []string{"b"}}}},
		{"caller a\nwait x\ncaller b", []impl.Group{{Names: []string{"a"}}, {Names: []string{"b"}}}},
		{"caller a\nbar x\ncaller b", []impl.Group{{Names: []string{"a", "b"}}}},
		{"caller a\nwhat\n\nbarr /\ncaller B\ncaller b", []impl.Group{{Names: []string{"a", "b"}}}},
		{"wait 9\nbar /\ncaller a\ncaller b", []impl.Group{{Names: []string{"a", "b"}}}},
		{"caller a\nwait 9\nbar /\nlet /a\nwait 3", []impl.Group{{Names: []string{"a"}, Rules: []impl.Rule{bar("/"), let("/a")}, Wait: 3}}},
		{"caller a\nwait 9\nwait x", []impl.Group{{Names: []string{"a"}}}},
		{"caller a\nbar /\nbar /\nlet /", []impl.Group{{Names: []string{"a"}, Rules: []impl.Rule{bar("/"), bar("/"), let("/")}}}},
	} {
		wantNotice(t, c.text, c.want)
	}
}

func TestNoticeReadWaits(t *testing.T) {
	for figures, want := range map[string]int{
		"0": 0, "1": 1, "19": 19, "20": 20, "21": 20, "99": 20, "200": 20, "007": 7, "0020": 20, "00000": 0,
		"18446744073709551616": 20, "9223372036854775808": 20, strings.Repeat("9", 1000): 20, strings.Repeat("0", 1000) + "4": 4,
		"": 0, "-1": 0, "-": 0, "+5": 0, "5x": 0, "x5": 0, "99x": 0, "5 ": 0, " 5": 0, "5 5": 0, "5.": 0, "1e1": 0, "0x5": 0, "5\r": 0, "5\xff": 0, "\u0665": 0, "1_0": 0, "/": 0, ":": 0,
	} {
		wantNotice(t, "caller a\nbar /\nwait "+figures, []impl.Group{{Names: []string{"a"}, Rules: []impl.Rule{bar("/")}, Wait: want}})
		wantNotice(t, "caller a\nwait "+figures+"\ncaller b", []impl.Group{{Names: []string{"a"}, Wait: want}, {Names: []string{"b"}}})
	}
}

func TestNoticeReadNames(t *testing.T) {
	for _, name := range []string{"*", "a", "z", "rover", "abcdefgh"} {
		wantNotice(t, "caller "+name, []impl.Group{{Names: []string{name}}})
		wantNotice(t, "caller x\ncaller "+name, []impl.Group{{Names: []string{"x", name}}})
	}
	for _, name := range []string{"", "**", "*a", "A", "aB", "a1", "a-", "a.", " a", "a ", "a b", "a\r", "`", "{", "\xe4", "abcdefghi", xs(1000)} {
		wantNotice(t, "caller "+name, nil)
		wantNotice(t, "caller "+name+"\nbar /\nwait 5", nil)
		wantNotice(t, "caller x\ncaller "+name, []impl.Group{{Names: []string{"x"}}})
	}
}

func TestNoticeReadRuleMany(t *testing.T) {
	for n := impl.RuleMany - 1; n <= impl.RuleMany+2; n++ {
		rules := slices.Repeat([]impl.Rule{bar("/a")}, min(n, impl.RuleMany))
		text := "caller a\n" + strings.Repeat("bar /a\n", n)
		wantNotice(t, text, []impl.Group{{Names: []string{"a"}, Rules: rules}})
		wantNotice(t, text+"wait 4\ncaller b\nlet /\n", []impl.Group{{Names: []string{"a"}, Rules: rules, Wait: 4}, {Names: []string{"b"}, Rules: []impl.Rule{let("/")}}})
	}
}

func TestNoticeReadLinesThatCount(t *testing.T) {
	for _, line := range []string{"\n", "what\n", "bar /\n", "caller A\n"} {
		for n := noticeLines - 3; n <= noticeLines+3; n++ {
			var want []impl.Group
			if n < noticeLines {
				want = []impl.Group{{Names: []string{"a"}}}
			}
			wantNotice(t, strings.Repeat(line, n)+"caller a", want)
			wantNotice(t, strings.Repeat(line, n)+"caller a\n", want)
		}
	}
	for n := noticeLines - 3; n <= noticeLines+3; n++ {
		names := manyNames(min(n, noticeLines))
		wantNotice(t, strings.Repeat("caller a\n", n), []impl.Group{{Names: names}})
	}
	wantNotice(t, "caller a\n"+strings.Repeat("\n", 100000)+"bar /\n", []impl.Group{{Names: []string{"a"}}})
}

func TestP34NoticeReadHasNamesAndOkPatterns(t *testing.T) {
	for _, text := range readTexts() {
		for _, group := range impl.NoticeRead(text) {
			if len(group.Names) == 0 || len(group.Rules) > impl.RuleMany || group.Wait < 0 || group.Wait > impl.RuleWait {
				t.Errorf("NoticeRead(%q) has %v", text, group)
			}
			for _, rule := range group.Rules {
				if !impl.RuleOk(rule.Path) {
					t.Errorf("NoticeRead(%q) has %v", text, rule)
				}
			}
			for _, name := range group.Names {
				if name != "a" && name != "b" && name != "*" {
					t.Errorf("NoticeRead(%q) has the name %q", text, name)
				}
			}
		}
	}
}

// noLines are lines that are none.
var noLines = []string{"", " ", "what", "what /a", "caller", "caller ", "caller A", "caller  a", " caller a", "Caller a", "caller a ", "callera", "caller\ta", "caller: a", "let", "let ", "let a", "let  /a", " let /a", "Let /a", "let /a ", "let/a", "bar", "bar ", "bar $", "bar /$a", "bar /a b", "bar /a\r", "barr /a", "wait", "Wait 5", "wait5", " wait 5", "wait\t5", "waits 5", "\x00", "\xff", "# caller a", "*", "/"}

func TestP35LinesThatAreNoneChangeNothing(t *testing.T) {
	for _, text := range []string{"", "caller a\n", "caller a\ncaller b\nbar /\n", "caller a\nwait 5\ncaller b\nlet /a\nbar /\n", "let /\nbar /\nwait 9\ncaller *\ncaller c\nbar /\nwait 4\n"} {
		want := impl.NoticeRead(text)
		lines := strings.SplitAfter(text, "\n")
		for _, line := range noLines {
			for at := range lines {
				wantNotice(t, strings.Join(lines[:at], "")+line+"\n"+strings.Join(lines[at:], ""), want)
			}
			wantNotice(t, text+line, want)
		}
		for _, ahead := range mix([]string{"let /\n", "bar /a\n", "wait 9\n", "wait x\n"}, 2) {
			wantNotice(t, ahead+text, want)
		}
	}
}
