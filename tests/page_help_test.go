package tests

import (
	"slices"
	"strings"
	"testing"

	"loop.example/pedlar/impl"
)

// pagePieces are what pages are read by, and a letter.
var pagePieces = []string{"<", ">", "(", ")", "!", "@", "a"}

// markPieces are whole marks of each kind, right and wrong addresses among them, and what is left out.
var markPieces = []string{"<a>", "<./a>", "<../b>", "<?q>", "<//CD/x>", "<//1>", "<%>", "<>", "<#c>", "<!a>", "<@/d/e>", "<@//cd/x/y>", "<@//1>", "<@>", "(<a>", ")", "<"}

// fullPage is a page of just so many bytes, with a base and a link ahead, and a link at its end.
func fullPage(size int) string {
	head, tail := "<@/d/e><a>", "<b>"
	return head + xs(size-len(head)-len(tail)) + tail
}

// somePages are pages of such marks, and at the limit.
func somePages() []string {
	return append(mix(markPieces, 3), fullPage(impl.PageMax), strings.Repeat("<>", impl.PageMax/2), strings.Repeat(">", impl.PageMax), manyLinks())
}

// manyLinks is a page that leads to many addresses, some twice.
func manyLinks() string {
	var out strings.Builder
	for b := 'a'; b <= 'z'; b++ {
		out.WriteString("<" + string(b) + "><./" + string(b) + ">")
	}
	return out.String()
}

// pageMarks tells by where signs stand which marks a page has.
func pageMarks(text string) []string {
	if len(text) > impl.PageMax {
		return nil
	}
	var marks []string
	for {
		at := strings.IndexAny(text, "<(")
		if at < 0 {
			return marks
		}
		end := ">"
		if text[at] == '(' {
			end = ")"
		}
		inner, behind, found := strings.Cut(text[at+1:], end)
		if !found {
			return marks
		}
		if end == ">" {
			marks = append(marks, inner)
		}
		text = behind
	}
}

// isLink says whether a mark is one that one may go by.
func isLink(mark string) bool {
	return !strings.HasPrefix(mark, "!") && !strings.HasPrefix(mark, "@")
}

// marksOf is marks, written behind each other.
func marksOf(inner ...string) string {
	return "<" + strings.Join(inner, "><") + ">"
}

// wantLinks says which links a page must have.
func wantLinks(t *testing.T, text string, want []string) {
	t.Helper()
	if got := impl.PageLinks(text); !slices.Equal(got, want) {
		t.Errorf("PageLinks(%q) = %q, not %q", text, got, want)
	}
}

// wantBase says which base a page must tell.
func wantBase(t *testing.T, text string, want string) {
	t.Helper()
	if got, ok := impl.PageBase(text); !ok || got != want {
		t.Errorf("PageBase(%q) = %q, %v, not %q", text, got, ok, want)
	}
}

// wantNoBase says that a page must tell no base.
func wantNoBase(t *testing.T, text string) {
	t.Helper()
	if got, ok := impl.PageBase(text); ok || got != "" {
		t.Errorf("PageBase(%q) = %q, %v, not nothing", text, got, ok)
	}
}

// wantAddrs says where one must come from a page.
func wantAddrs(t *testing.T, at impl.Addr, text string, want []string) {
	t.Helper()
	if got := impl.PageAddrs(at, text); !slices.Equal(got, want) {
		t.Errorf("PageAddrs(%#v, %q) = %q, not %q", at, text, got, want)
	}
}
