package tests

import (
	"strings"
	"testing"

	"loop.example/pedlar/impl"
)

func TestPageBaseTold(t *testing.T) {
	for _, c := range []struct{ text, want string }{
		{"<@a>", "a"},
		{"<@>", ""},
		{"<@><@a>", ""},
		{"<@@>", "@"},
		{"<@!>", "!"},
		{"<a><@b><@c>", "b"},
		{"<!a><@b>", "b"},
		{"<!@a><@b>", "b"},
		{"<a@><@b>", "b"},
		{"< @a><@b>", "b"},
		{"<@a<b>c>", "a<b"},
		{"<@(a>b)", "(a"},
		{"(<@a>)<@b>", "b"},
		{"((<@a>)<@b>)", "b"},
		{"<(><@a><)>", "a"},
		{"<@//1>", "//1"},
		{"<@%>", "%"},
		{"<@\x00\xff>", "\x00\xff"},
	} {
		wantBase(t, c.text, c.want)
	}
}

func TestPageBaseNone(t *testing.T) {
	for _, text := range []string{"", "@", "@a", "<a>", "<>", "<a@>", "< @>", "<!@a>", "<@a", "@a>", "(<@a>)", "(<@a>", "((<@a>))", "<a<@b>", "<(@a)>", "<(<@a>"} {
		wantNoBase(t, text)
	}
}

func TestPageBaseLimit(t *testing.T) {
	for size := impl.PageMax - 1; size <= impl.PageMax+2; size++ {
		if size <= impl.PageMax {
			wantBase(t, fullPage(size), "/d/e")
		} else {
			wantNoBase(t, fullPage(size))
		}
	}
	whole := xs(impl.PageMax - 3)
	wantBase(t, "<@"+whole+">", whole)
	wantNoBase(t, "<@"+whole+"x>")
	wantNoBase(t, strings.Repeat("<@a>", 100000))
}

func TestP46TheFirstMarkWithAtIsPageBase(t *testing.T) {
	told := 0
	for _, text := range append(mix(pagePieces, 6), somePages()...) {
		base, ok := "", false
		for _, mark := range pageMarks(text) {
			if base, ok = strings.CutPrefix(mark, "@"); ok {
				break
			}
		}
		if !ok {
			wantNoBase(t, text)
			continue
		}
		told++
		wantBase(t, text, base)
	}
	if told == 0 {
		t.Error("no page tells a base")
	}
	for _, inner := range []string{"", "a", "@", "!", "(", "<", "//cd", "%"} {
		for _, text := range mix(markPieces, 2) {
			wantBase(t, marksOf("@"+inner)+text, inner)
			wantBase(t, marksOf("a", "!@b", " @c", "", "@"+inner)+text, inner)
		}
	}
}
