package tests

import (
	"slices"
	"strings"
	"testing"

	"loop.example/pedlar/impl"
)

func TestPageLinksTold(t *testing.T) {
	for _, c := range []struct {
		text string
		want []string
	}{
		{"", nil},
		{"a", nil},
		{"<a>", []string{"a"}},
		{"x<a>y<b>z", []string{"a", "b"}},
		{"<b><a><b>", []string{"b", "a", "b"}},
		{"<>", []string{""}},
		{"<><>", []string{"", ""}},
		{"< >", []string{" "}},
		{"<a", nil},
		{"a>", nil},
		{"><a>>", []string{"a"}},
		{"<a<b>", []string{"a<b"}},
		{"<a<b>c>", []string{"a<b"}},
		{"<<a>>", []string{"<a"}},
		{"<a\nb>", []string{"a\nb"}},
		{"<\x00\xff>", []string{"\x00\xff"}},
		{"<!a>", nil},
		{"<!>", nil},
		{"<@a>", nil},
		{"<@>", nil},
		{"< !a>< @a>", []string{" !a", " @a"}},
		{"<a!><a@>", []string{"a!", "a@"}},
		{"<!a><b><@c><d>", []string{"b", "d"}},
		{"<!(a><b>)", []string{"b"}},
		{"<@(a><b>)", []string{"b"}},
	} {
		wantLinks(t, c.text, c.want)
	}
}

func TestPageLinksOfBrackets(t *testing.T) {
	for _, c := range []struct {
		text string
		want []string
	}{
		{"(<a>)", nil},
		{"(<a>)<b>", []string{"b"}},
		{"<a>(<b>)<c>", []string{"a", "c"}},
		{"()<a>", []string{"a"}},
		{"(<a>", nil},
		{"<a>(<b>", []string{"a"}},
		{"<a>)<b>", []string{"a", "b"}},
		{")<a>(", []string{"a"}},
		{"(()<a>", []string{"a"}},
		{"((<a>)<b>)", []string{"b"}},
		{"((<a>)<b>)<c>", []string{"b", "c"}},
		{"(<a>(<b>)<c>)<d>", []string{"c", "d"}},
		{"((<a>))<b>", []string{"b"}},
		{"(((<a>)(<b>)<c>)", []string{"c"}},
		{"(<a)b><c>", []string{"c"}},
		{"(<a)<b><c>", []string{"b", "c"}},
		{"<a(b>c)", []string{"a(b"}},
		{"<a(b>c)<d>", []string{"a(b", "d"}},
		{"<a(b)c>", []string{"a(b)c"}},
		{"<(>a<)>", []string{"(", ")"}},
		{"<(><a><)>", []string{"(", "a", ")"}},
		{"<a(b><c>)<d>", []string{"a(b", "c", "d"}},
		{"<(a)>", []string{"(a)"}},
		{"<a(<b>", []string{"a(<b"}},
		{"<(!a)b>", []string{"(!a)b"}},
	} {
		wantLinks(t, c.text, c.want)
	}
}

func TestPageLinksAreOfAllMarks(t *testing.T) {
	for _, text := range append(mix(pagePieces, 6), somePages()...) {
		var want []string
		for _, mark := range pageMarks(text) {
			if isLink(mark) {
				want = append(want, mark)
			}
		}
		wantLinks(t, text, want)
	}
}

func TestPageLinksLimit(t *testing.T) {
	for size := impl.PageMax - 1; size <= impl.PageMax+2; size++ {
		var want []string
		if size <= impl.PageMax {
			want = []string{"a", "b"}
		}
		wantLinks(t, fullPage(size), want)
	}
	whole := xs(impl.PageMax - 2)
	wantLinks(t, "<"+whole+">", []string{whole})
	wantLinks(t, "<"+whole+"x>", nil)
	wantLinks(t, strings.Repeat("<>", impl.PageMax/2), slices.Repeat([]string{""}, impl.PageMax/2))
	wantLinks(t, strings.Repeat("<>", impl.PageMax/2)+")", nil)
	wantLinks(t, "("+strings.Repeat("<", impl.PageMax), nil)
	wantLinks(t, strings.Repeat("<a>", 100000), nil)
}

func TestPageLinksOfEachByte(t *testing.T) {
	for b := range 256 {
		sign := string([]byte{byte(b)})
		var first, later, around []string
		if b == '>' {
			first, later = []string{""}, []string{"x"}
		} else {
			later = []string{"x" + sign}
			if b != '!' && b != '@' {
				first = []string{sign}
			}
		}
		switch b {
		case '<':
			around = []string{"<a"}
		case '(':
		default:
			around = []string{"a"}
		}
		wantLinks(t, "<"+sign+">", first)
		wantLinks(t, "<x"+sign+">", later)
		wantLinks(t, sign+"<a>", around)
	}
}

func TestP43AMarkAheadIsTheFirst(t *testing.T) {
	for _, inner := range []string{"", "a", "b", "(", ")", "(a)", "<", "a<b", " !", " @", "a!", "a@", "!", "!a", "!<a", "@", "@a", "@(", "\x00", "\xff", xs(100)} {
		for _, text := range append(mix(pagePieces, 4), fullPage(impl.PageMax-102)) {
			var want []string
			if isLink(inner) {
				want = append(want, inner)
			}
			wantLinks(t, "<"+inner+">"+text, append(want, impl.PageLinks(text)...))
		}
	}
}

// inBrackets are texts that may stand in round brackets, brackets that begin and marks among them.
var inBrackets = []string{"", "a", "(", "((", "<a>", "<!a>", "<@a>", "<", ">", "(<a>", "<a>(", "<(>", "!", "@", "\xff", xs(100)}

func TestP44WhatIsInRoundBracketsAheadChangesNothing(t *testing.T) {
	at := read(t, "//ab/x/y")
	for _, inner := range inBrackets {
		for _, text := range append(mix(pagePieces, 4), append(mix(markPieces, 2), fullPage(impl.PageMax-102))...) {
			longer := "(" + inner + ")" + text
			wantLinks(t, longer, impl.PageLinks(text))
			if base, ok := impl.PageBase(text); ok {
				wantBase(t, longer, base)
			} else {
				wantNoBase(t, longer)
			}
			wantAddrs(t, at, longer, impl.PageAddrs(at, text))
		}
	}
}

func TestP45NoMoreLinksThanEndsOfMarks(t *testing.T) {
	most := 0
	for _, text := range append(mix(pagePieces, 6), somePages()...) {
		links, ends := len(impl.PageLinks(text)), strings.Count(text, ">")
		if links > ends {
			t.Errorf("PageLinks(%q) are %d, but there are %d ends", text, links, ends)
		}
		most = max(most, links)
	}
	if most != impl.PageMax/2 {
		t.Errorf("there are at most %d links", most)
	}
}
