package table_test

import (
	"math"
	"math/rand"
	"slices"
	"testing"

	"tronage/table"
)

// The model holds rows against each other number by number, tries places one by one, and has the cells that are taken in a map.

// equal tells whether rows are the same, but for 0 at their ends.
func equal(a, b []int) bool {
	for col := range max(len(a), len(b)) {
		if at([][]int{a, b}, 0, col) != at([][]int{a, b}, 1, col) {
			return false
		}
	}
	return true
}

// ended is how long a row is without 0 at its end.
func ended(row []int) int {
	n := 0
	for col, x := range row {
		if x != 0 {
			n = col + 1
		}
	}
	return n
}

// shared is the model of Share.
func shared(rows [][]int) ([]int, [][]int) {
	var ids []int
	var unlike [][]int
	for _, row := range rows {
		id := slices.IndexFunc(unlike, func(x []int) bool { return equal(x, row) })
		if id < 0 {
			id = len(unlike)
			unlike = append(unlike, row[:ended(row)])
		}
		ids = append(ids, id)
	}
	return ids, unlike
}

// cell is what lies in one: a number, and whose that is.
type cell struct{ n, owner int }

// free tells whether a row may be laid at a place.
func free(taken map[int]cell, row []int, place int) bool {
	for col, n := range row {
		if _, is := taken[place+col]; is && n != 0 {
			return false
		}
	}
	return true
}

// packed is the model of Pack.
func packed(rows [][]int) table.Packed {
	ids, unlike := shared(rows)
	taken, places, p := map[int]cell{}, []int{}, table.Packed{Ids: ids}
	for id, row := range unlike {
		place := 0
		for !free(taken, row, place) {
			place++
		}
		for col, n := range row {
			if n != 0 {
				taken[place+col] = cell{n, id + 1}
			}
		}
		places = append(places, place)
	}
	for left, i := len(taken), 0; left > 0; i++ {
		if x, is := taken[i]; is {
			left--
			p.Next, p.Owner = append(p.Next, x.n), append(p.Owner, x.owner)
		} else {
			p.Next, p.Owner = append(p.Next, 0), append(p.Owner, 0)
		}
	}
	for _, id := range ids {
		p.Base = append(p.Base, places[id])
	}
	return p
}

// counted is how many lists of rows, and how many of some kinds, a test has held against the model.
type counted struct{ lists, same, gaps, later, back int }

// note counts a list of rows that is packed.
func (n *counted) note(p table.Packed) {
	one := func(n *int, is bool) {
		if is {
			*n++
		}
	}
	one(&n.lists, true)
	one(&n.same, slices.Max(append([]int{-1}, p.Ids...)) < len(p.Ids)-1)
	one(&n.gaps, slices.Contains(p.Owner, 0))
	one(&n.later, !slices.IsSorted(p.Owner))
	one(&n.back, !slices.IsSorted(p.Base))
}

// enough fails the test if it has held too few lists of some kind.
func (n *counted) enough(t *testing.T, least int) {
	t.Helper()
	if min(n.lists/5, n.same, n.gaps, n.later, n.back) < least {
		t.Errorf("just %+v lists", *n)
	}
}

// add holds what is told of rows against the model, and what follows against itself.
func (n *counted) add(t *testing.T, rows [][]int) {
	t.Helper()
	ids, unlike := shared(rows)
	shares(t, rows, ids, unlike...)
	want := packed(rows)
	packs(t, rows, want)
	p := table.Pack(rows)
	tells(t, p, rows)
	all, of := 0, map[int]cell{}
	for _, row := range rows {
		all += len(row) - len(slices.DeleteFunc(slices.Clone(row), func(n int) bool { return n != 0 }))
	}
	if got := table.Dense(rows); got != all {
		t.Errorf("of %v Dense tells %d, want %d", rows, got, all)
	}
	for row, id := range p.Ids {
		for col, n := range rows[row] {
			mine := cell{n, id + 1}
			if other, is := of[p.Base[row]+col]; is && n != 0 && other != mine {
				t.Errorf("of %v the cell %d is of %v, and of %v", rows, p.Base[row]+col, mine, other)
			} else if n != 0 {
				of[p.Base[row]+col] = mine
			}
		}
	}
	if least := table.Dense(unlike); p.Cells() < least || len(of) != least {
		t.Errorf("of %v there are %d cells, in %d lies a number, want %d", rows, p.Cells(), len(of), least)
	}
	if t.Failed() {
		t.FailNow()
	}
	n.note(p)
}

// short are all rows of up to so many of some numbers.
func short(numbers []int, wide int) [][]int {
	all := [][]int{nil}
	for i := 0; i < len(all); i++ {
		for _, n := range numbers {
			if len(all[i]) < wide {
				all = append(all, append(slices.Clone(all[i]), n))
			}
		}
	}
	return all
}

// P15.1 to P15.4: all lists of up to three rows of up to three of three numbers, and of four rows of up to three of two.
func TestModelOfShortRows(t *testing.T) {
	n := &counted{}
	var add func(rows, of [][]int, more int)
	add = func(rows, of [][]int, more int) {
		n.add(t, rows)
		if more > 0 {
			for _, row := range of {
				add(append(slices.Clone(rows), row), of, more-1)
			}
		}
	}
	add(nil, short([]int{0, 1, -1}, 3), 3)
	add(nil, short([]int{0, 7}, 3), 4)
	n.enough(t, 1000)
}

// random are rows by chance: so many at most, of so many columns at most, of which about one of thin has a number, from few ones, or from all.
func random(r *rand.Rand, most, wide, thin int, few bool) [][]int {
	var rows [][]int
	for range 1 + r.Intn(most) {
		var row []int
		if len(rows) > 0 && r.Intn(6) == 0 {
			row = append(row, rows[r.Intn(len(rows))]...)
		}
		for range r.Intn(wide + 1) {
			n := 0
			if r.Intn(thin) == 0 {
				n = 1 + r.Intn(2)
				if !few {
					n = []int{n, -n, int(r.Uint64()), math.MinInt, math.MaxInt}[r.Intn(5)]
				}
			}
			row = append(row, n)
		}
		rows = append(rows, append(row, make([]int, r.Intn(3))...))
	}
	return rows
}

// P15.1 to P15.4: rows by chance, short and long ones, full and thin ones, few and many.
func TestModelByChance(t *testing.T) {
	r := rand.New(rand.NewSource(15))
	n := &counted{}
	for _, most := range []int{3, 12, 50} {
		for _, wide := range []int{2, 5, 30, 70, 200} {
			for _, thin := range []int{1, 2, 3, 10, 60} {
				for i := range 20000 / (most * wide) {
					n.add(t, random(r, most, wide, thin, i%2 == 0))
				}
			}
		}
	}
	n.enough(t, 1000)
}
