package rung

import (
	"cobweb/api"
	"cobweb/chain"
	"cobweb/cross"
	"cobweb/grid"
	"cobweb/pixel"
)

// link goes from the center of a pixel to that of another one.
type link struct{ p, q grid.Pixel }

// linkOf tells a chain's link of that number.
func linkOf(c chain.Chain, i int) link { return link{p: c.V[i], q: c.V[i+1]} }

// linksOf tells all links, chain by chain.
func linksOf(chains []chain.Chain) []link {
	var l []link
	for _, c := range chains {
		for i := range c.D {
			l = append(l, linkOf(c, i))
		}
	}
	return l
}

// centers tells those of its two pixels, on rung k.
func (a link) centers(k int) (p, q api.Point) { return grid.Center(a.p, k), grid.Center(a.q, k) }

// mustSplit tells whether the link meets the hot pixel h, which is none of its two.
func (a link) mustSplit(h grid.Pixel, k int) bool {
	p, q := a.centers(k)
	return h != a.p && h != a.q && pixel.Hits(p, q, h, k)
}

// clash tells what two links have in common, but nothing, if that is ends alone, or all.
func (a link) clash(b link, k int) cross.Meeting {
	p, q := a.centers(k)
	s, t := b.centers(k)
	if cross.Ends(p, q, s, t) {
		return cross.Meeting{}
	}
	return cross.Meet(p, q, s, t)
}

// turned gives the link as it goes from its lesser pixel to its greater one.
func (a link) turned() link {
	if grid.Cmp(a.p, a.q) > 0 {
		return link{p: a.q, q: a.p}
	}
	return a
}
