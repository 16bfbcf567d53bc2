package tests

import (
	"math"
	"slices"
	"testing"

	"loop.example/pedlar/impl"
)

func TestWorldOkTold(t *testing.T) {
	for _, w := range okWorlds() {
		if !impl.WorldOk(w) {
			t.Errorf("WorldOk(%v) is false", w)
		}
	}
	for _, w := range wrongWorlds() {
		if impl.WorldOk(w) {
			t.Errorf("WorldOk(%v) is true", w)
		}
	}
}

func TestWorldOkOfOnePage(t *testing.T) {
	for _, page := range []impl.Page{
		{Addr: "//ab/"},
		{Addr: "//ab/?"},
		{Addr: "//ab/a", Text: xs(impl.PageMax)},
		{Addr: "//ab/a", Text: "\x00\xff", Fails: mostFails},
		{Addr: "//ab/a", Lead: "//ab/a"},
		{Addr: "//ab/a", Lead: "//zz/notice", Fails: 1},
		{Addr: "//ab/" + xs(impl.AddrMax-5), Lead: "//cd/" + xs(impl.AddrMax-5)},
	} {
		if !impl.WorldOk([]impl.Page{page}) {
			t.Errorf("%v is no world", page)
		}
	}
	for _, page := range wrongPages() {
		if impl.WorldOk([]impl.Page{page}) {
			t.Errorf("%v is a world", page)
		}
	}
}

func TestWorldOkLimit(t *testing.T) {
	for pages := range impl.WorldMax + 3 {
		if got := impl.WorldOk(fullWorld(pages)); got != (pages <= impl.WorldMax) {
			t.Errorf("WorldOk of %d pages is %v", pages, got)
		}
	}
}

func TestP50TheFirstAndTheLastPagesOfAWorldAreOne(t *testing.T) {
	for _, w := range okWorlds() {
		for cut := range len(w) + 1 {
			if !impl.WorldOk(w[:cut]) || !impl.WorldOk(w[cut:]) {
				t.Errorf("%v, cut at %d, is no world", w, cut)
			}
		}
	}
}

func TestWorldGetTold(t *testing.T) {
	w := toldWorld()
	wantGet(t, w, "//ab/c", 0, impl.GetFail, "")
	wantGet(t, w, "//ab/c", 1, impl.GetFail, "")
	wantGet(t, w, "//ab/c", 2, impl.GetPage, "<..><a/b><b/../e>")
	wantGet(t, w, "//ab/e", 0, impl.GetFail, "")
	wantGet(t, w, "//ab/e", 1, impl.GetLead, "//ab/e")
	wantGet(t, w, "//ab/a", 0, impl.GetLead, "//ab/c")
	wantGet(t, w, "//cd/x", 2, impl.GetFail, "")
	wantGet(t, w, "//cd/x", 3, impl.GetPage, "<y>")
	wantGet(t, w, "//ab/a/b", 8, impl.GetFail, "")
	wantGet(t, w, "//ab/a/b", 9, impl.GetLead, "//ef/")
	wantGet(t, w, "//ab/q", 0, impl.GetNone, "")
	wantGet(t, []impl.Page{{Addr: "//ab/"}}, "//ab/", 0, impl.GetPage, "")
	wantGet(t, nil, "//ab/", 0, impl.GetNone, "")
}

func TestWorldGetOfWrongInputs(t *testing.T) {
	for _, w := range okWorlds() {
		for _, addr := range lookups(w) {
			for _, tries := range []int{-1, -2, math.MinInt} {
				wantGet(t, w, addr, tries, impl.GetNone, "")
			}
		}
		for _, text := range notAddresses {
			wantGet(t, w, text, atLast, impl.GetNone, "")
		}
	}
	for _, w := range wrongWorlds() {
		for _, addr := range append(lookups(w), notAddresses...) {
			for _, tries := range []int{-1, 0, atLast, mostFails + 1} {
				wantGet(t, w, addr, tries, impl.GetNone, "")
			}
		}
	}
}

func TestP51WorldGetFailsAsOftenAsIsToldThenLeadsOrIsAPage(t *testing.T) {
	kinds := make([]int, 4)
	for _, w := range okWorlds() {
		for _, addr := range lookups(w) {
			page, stands := pageAt(w, addr)
			for tries := range mostFails + 3 {
				kind, text := impl.GetPage, page.Text
				switch {
				case !stands:
					kind, text = impl.GetNone, ""
				case tries < page.Fails:
					kind, text = impl.GetFail, ""
				case page.Lead != "":
					kind, text = impl.GetLead, page.Lead
				}
				wantGet(t, w, addr, tries, kind, text)
				kinds[kind]++
			}
		}
	}
	if slices.Min(kinds) < 100 {
		t.Errorf("one gets of each kind %v", kinds)
	}
}

func TestP52WhatDoesNotFailStaysTheSame(t *testing.T) {
	for _, w := range okWorlds() {
		for _, addr := range lookups(w) {
			for tries := range mostFails + 3 {
				kind, text := impl.WorldGet(w, addr, tries)
				if kind == impl.GetFail {
					continue
				}
				wantGet(t, w, addr, tries+1, kind, text)
				wantGet(t, w, addr, math.MaxInt, kind, text)
			}
		}
	}
}
