package tests

import (
	"slices"
	"testing"

	"loop.example/pedlar/impl"
)

func TestPageAddrsTold(t *testing.T) {
	for _, c := range []struct {
		at, text string
		want     []string
	}{
		{"//ab/x/y", "", nil},
		{"//ab/x/y", "a", nil},
		{"//ab/x/y", "<a>", []string{"//ab/x/a"}},
		{"//ab/x/y", "<b><a><b><./a>", []string{"//ab/x/b", "//ab/x/a"}},
		{"//ab/x/y", "<>", []string{"//ab/x/y"}},
		{"//ab/x/y?q", "<><#z><?q>", []string{"//ab/x/y?q"}},
		{"//ab/x/y", "<../z/%7e><..>", []string{"//ab/z/%7E", "//ab/"}},
		{"//ab/x/y", "<%><a%4></%><//1><///>", nil},
		{"//ab/x/y", "<%><a><//1><b>", []string{"//ab/x/a", "//ab/x/b"}},
		{"//ab/x/y", "<a b>", []string{"//ab/x/a%20b"}},
		{"//ab/x/y", "<a(b>", []string{"//ab/x/a%28b"}},
		{"//ab/x/y", "<a<b>", []string{"//ab/x/a%3Cb"}},
		{"//ab/x/y", "(<a>)<b>", []string{"//ab/x/b"}},
		{"//ab/x/y", "((<a>)<b>)", []string{"//ab/x/b"}},
		{"//ab/x/y", "<!a>", nil},
		{"//ab/x/y", "<@/d/e>", nil},
		{"//ab/x/y", "<@/d/e><a>", []string{"//ab/d/a"}},
		{"//ab/x/y", "<a><@/d/e>", []string{"//ab/d/a"}},
		{"//ab/x/y", "<@/d/><a>", []string{"//ab/a"}},
		{"//ab/x/y", "<@d/e><a>", []string{"//ab/x/d/a"}},
		{"//ab/x/y", "<@//CD/x/y><a></a>", []string{"//cd/x/a", "//cd/a"}},
		{"//ab/x/y", "<@/d/e><>", []string{"//ab/d/e"}},
		{"//ab/x/y", "<@/d/e?q><><?r>", []string{"//ab/d/e?q", "//ab/d/e?r"}},
		{"//ab/x/y?q", "<@><>", []string{"//ab/x/y?q"}},
		{"//ab/x/y", "<@//1><a>", []string{"//ab/x/a"}},
		{"//ab/x/y", "<@%><@/d/e><a>", []string{"//ab/x/a"}},
		{"//ab/x/y", "<@/d/e><@/f/g><a>", []string{"//ab/d/a"}},
		{"//ab/x/y", "(<@/d/e>)<a>", []string{"//ab/x/a"}},
		{"//ab", "<a></a><./a><//AB/a/><//ab/b/../a#c>", []string{"//ab/a"}},
		{"//ab", "<?><>", []string{"//ab/?", "//ab/"}},
		{"//ab/a/b/c/d/e", "<f><f/g><?q>", []string{"//ab/a/b/c/d/f", "//ab/a/b/c/d/e?q"}},
	} {
		wantAddrs(t, read(t, c.at), c.text, c.want)
	}
}

func TestPageAddrsFromWhatIsNotOk(t *testing.T) {
	for _, at := range wrongAddrs() {
		for _, text := range append(mix(markPieces, 2), "<//cd>", "<@//cd><a>", "<@//cd/><//ab/x>") {
			wantAddrs(t, at, text, nil)
		}
	}
}

func TestPageAddrsLimit(t *testing.T) {
	at := read(t, "//ab/x/y")
	for size := impl.PageMax - 1; size <= impl.PageMax+2; size++ {
		var want []string
		if size <= impl.PageMax {
			want = []string{"//ab/d/a", "//ab/d/b"}
		}
		wantAddrs(t, at, fullPage(size), want)
	}
	longest := "//ab/" + xs(impl.AddrMax-5)
	wantAddrs(t, at, marksOf(longest), []string{longest})
	wantAddrs(t, at, marksOf(longest+"x", "b"), []string{"//ab/x/b"})
	wantAddrs(t, at, marksOf("c#"+xs(impl.AddrMax-2)), []string{"//ab/x/c"})
	wantAddrs(t, at, marksOf("c#"+xs(impl.AddrMax-1)), nil)
	wantAddrs(t, at, marksOf("@/d/e#"+xs(impl.AddrMax-5), "a"), []string{"//ab/d/a"})
	wantAddrs(t, at, marksOf("@/d/e#"+xs(impl.AddrMax-4), "a"), []string{"//ab/x/a"})
	wantAddrs(t, at, marksOf("@/a/b/c/d/e", "f"), []string{"//ab/a/b/c/d/f"})
	wantAddrs(t, at, marksOf("@/a/b/c/d/e/f", "f"), []string{"//ab/x/f"})
}

func TestP47PageAddrsAreAddressesEachOnce(t *testing.T) {
	most := 0
	for _, at := range someAddrs() {
		for _, text := range somePages() {
			got := impl.PageAddrs(at, text)
			for i, addr := range got {
				if a, ok := impl.AddrRead(addr); !ok || impl.AddrText(a) != addr {
					t.Errorf("PageAddrs(%#v, %q) has %q, which is no address", at, text, addr)
				}
				if slices.Contains(got[:i], addr) {
					t.Errorf("PageAddrs(%#v, %q) has %q twice", at, text, addr)
				}
			}
			most = max(most, len(got))
		}
	}
	if most < 26 {
		t.Errorf("one comes to at most %d addresses", most)
	}
}

// joined tells link by link where one comes from a page.
func joined(at impl.Addr, text string) []string {
	if ref, told := impl.PageBase(text); told {
		if base, ok := impl.AddrJoin(at, ref); ok {
			at = base
		}
	}
	var all []string
	for _, link := range impl.PageLinks(text) {
		if to, ok := impl.AddrJoin(at, link); ok && !slices.Contains(all, impl.AddrText(to)) {
			all = append(all, impl.AddrText(to))
		}
	}
	return all
}

func TestP48PageAddrsAreJustWhereAddrJoinLeads(t *testing.T) {
	for _, at := range someAddrs() {
		for _, text := range somePages() {
			wantAddrs(t, at, text, joined(at, text))
		}
	}
}

func TestP49WithAWholeAddressAsPageBaseItIsAsIfOneWereThere(t *testing.T) {
	pages := append(mix(markPieces, 2), fullPage(impl.PageMax/2), manyLinks()[:200])
	for _, at := range someAddrs() {
		for _, there := range someAddrs() {
			base := marksOf("@" + impl.AddrText(there))
			for _, text := range pages {
				wantAddrs(t, at, base+text, impl.PageAddrs(there, base+text))
				if _, told := impl.PageBase(text); !told {
					wantAddrs(t, at, base+text, impl.PageAddrs(there, text))
				}
			}
		}
	}
}
