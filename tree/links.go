package tree

// first is the first node of those from n down.
func (t *Tree) first(n int) int {
	up := none
down:
	if n != none {
		n, up = t.nodes[n].down[before], n
		goto down
	}
	return up
}

// next is the node that is ordered behind n.
func (t *Tree) next(n int) int {
	if below := t.nodes[n].down[behind]; below != none {
		return t.first(below)
	}
climb:
	if t.side(n) == behind {
		n = t.nodes[n].up
		goto climb
	}
	return t.nodes[n].up
}

// ways are the least and the most nodes of a way from n down to where none is.
func (t *Tree) ways(n int) (int, int) {
	if n == none {
		return 0, 0
	}
	least, most := t.ways(t.nodes[n].down[before])
	less, more := t.ways(t.nodes[n].down[behind])
	return min(least, less) + 1, max(most, more) + 1
}

// side tells on which side of the node above it n is; the root counts as before.
func (t *Tree) side(n int) int {
	if t.nodes[t.nodes[n].up].down[behind] == n {
		return behind
	}
	return before
}

// hang hangs a node that has a key below the others; behind like keys, as it came later.
func (t *Tree) hang(n int) {
	up, side, at := none, before, t.root
down:
	if at != none {
		up, side = at, behind
		if ahead(t.nodes[n].key, t.nodes[at].key) {
			side = before
		}
		at = t.nodes[at].down[side]
		goto down
	}
	t.join(up, side, n)
}

// join hangs n, which may be none, on a side of up; if that is none, n is the root.
func (t *Tree) join(up, side, n int) {
	if up == none {
		t.root = n
	} else {
		t.nodes[up].down[side] = n
	}
	if n != none {
		t.nodes[n].up = up
	}
}

// rotate lets n go down on a side, and the node on its other side up in its stead.
func (t *Tree) rotate(n, side int) {
	child := t.nodes[n].down[1-side]
	up, where := t.nodes[n].up, t.side(n)
	t.join(n, 1-side, t.nodes[child].down[side])
	t.join(child, side, n)
	t.join(up, where, child)
}

// mendRed mends the colours when n became red: the node above it may be red too.
func (t *Tree) mendRed(n int) {
	l := t.nodes
climb:
	up := l[n].up
	if !l[up].red {
		l[t.root].red = false
		return
	}
	over, side := l[up].up, t.side(up) // there is one over it, as the root is black
	beside := l[over].down[1-side]
	if l[beside].red {
		l[up].red, l[beside].red, l[over].red = false, false, true
		n = over
		goto climb
	}
	if t.side(n) != side {
		t.rotate(up, side)
		up = n
	}
	l[up].red, l[over].red = false, true
	t.rotate(over, 1-side)
}

// unhang takes a node out. One that has others on both sides is taken out where its next one is,
// which then takes its stead: places stay, as handles tell them.
func (t *Tree) unhang(n int) {
	l := t.nodes
	out, child := n, l[n].down[before]
	if child == none {
		child = l[n].down[behind]
	} else if l[n].down[behind] != none {
		out = t.next(n)
		child = l[out].down[behind]
	}
	up, side, black := l[out].up, t.side(out), !l[out].red
	t.join(up, side, child)
	if out != n {
		t.replace(n, out)
		if up == n {
			up = out
		}
	}
	if black {
		t.mendBlack(up, side)
	}
}

// replace lets by take n's stead, with its colour and what hangs on it.
func (t *Tree) replace(n, by int) {
	old := t.nodes[n]
	t.nodes[by].red = old.red
	t.join(old.up, t.side(n), by)
	t.join(by, before, old.down[before])
	t.join(by, behind, old.down[behind])
}

// mendBlack mends the colours when the ways on a side of up have a black node less than the others.
func (t *Tree) mendBlack(up, side int) {
	l := t.nodes
climb:
	if up == none {
		l[t.root].red = false
		return
	}
	if n := l[up].down[side]; l[n].red {
		l[n].red = false
		return
	}
	beside := l[up].down[1-side]
	if l[beside].red {
		l[up].red, l[beside].red = true, false
		t.rotate(up, side)
		beside = l[up].down[1-side]
	}
	near, far := l[beside].down[side], l[beside].down[1-side]
	if !l[near].red && !l[far].red {
		l[beside].red = true
		up, side = l[up].up, t.side(up)
		goto climb
	}
	if !l[far].red {
		t.rotate(beside, 1-side)
		beside, far = near, beside
	}
	l[beside].red, l[up].red, l[far].red = l[up].red, false, false
	t.rotate(up, side)
}
