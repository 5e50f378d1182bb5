package table_test

import (
	"math"
	"slices"
	"testing"

	"tronage/api"
	"tronage/look"
	"tronage/names"
	"tronage/reader"
	"tronage/resolve"
	"tronage/states"
	"tronage/table"
)

// far are numbers that no row, and no column, has.
var far = []int{math.MinInt, math.MinInt + 1, -1 << 40, -1000, -2, -1, 1 << 20, 1 << 40, 1 << 62, math.MaxInt - 1, math.MaxInt}

// same tells whether lists are the same ones, in the same order.
func same(a, b [][]int) bool { return slices.EqualFunc(a, b, slices.Equal) }

// deep is a copy of lists that shares nothing with them.
func deep(l [][]int) [][]int {
	var c [][]int
	for _, x := range l {
		c = append(c, slices.Clone(x))
	}
	return c
}

// at is the number at a place of a list of lists; 0, if there is no such place.
func at(rows [][]int, row, col int) int {
	if row < 0 || row >= len(rows) || col < 0 || col >= len(rows[row]) {
		return 0
	}
	return rows[row][col]
}

// shares fails the test if Share tells anything else.
func shares(t *testing.T, rows [][]int, ids []int, unlike ...[]int) {
	t.Helper()
	gotIds, got := table.Share(rows)
	if !slices.Equal(gotIds, ids) || !same(got, unlike) {
		t.Errorf("of %v Share tells %v, %v, want %v, %v", rows, gotIds, got, ids, unlike)
	}
}

// packs fails the test if Pack tells anything else.
func packs(t *testing.T, rows [][]int, want table.Packed) {
	t.Helper()
	got := table.Pack(rows)
	if !alike(got, want) {
		t.Errorf("of %v Pack tells %v, want %v", rows, got, want)
	}
	if got.Cells() != len(want.Next) {
		t.Errorf("of %v Cells tells %d, want %d", rows, got.Cells(), len(want.Next))
	}
}

// alike tells whether all lists are the same.
func alike(p, q table.Packed) bool {
	return slices.Equal(p.Ids, q.Ids) && slices.Equal(p.Base, q.Base) && slices.Equal(p.Next, q.Next) && slices.Equal(p.Owner, q.Owner)
}

// tells fails the test if what is packed is not told as it was, or rows or columns that are none have any number.
func tells(t *testing.T, p table.Packed, rows [][]int) {
	t.Helper()
	wide := 0
	for _, row := range rows {
		wide = max(wide, len(row))
	}
	for row := -2; row < len(rows)+2; row++ {
		for col := -2; col < wide+2; col++ {
			if got, want := p.At(row, col), at(rows, row, col); got != want {
				t.Fatalf("of %v, packed as %v, At tells %d at %d, %d, want %d", rows, p, got, row, col, want)
			}
		}
	}
}

// P15.1, P15.2: the chapter's example.
func TestExample(t *testing.T) {
	rows := [][]int{{0, 1}, {2, 0, 3}, {0, 1, 0}}
	shares(t, rows, []int{0, 1, 0}, []int{0, 1}, []int{2, 0, 3})
	packs(t, rows, table.Packed{Ids: []int{0, 1, 0}, Base: []int{0, 0, 0}, Next: []int{2, 1, 3}, Owner: []int{2, 1, 2}})
	tells(t, table.Pack(rows), rows)
}

// P15.1 to P15.3; R4: of no rows there is nothing to tell.
func TestNoRows(t *testing.T) {
	for _, rows := range [][][]int{nil, {}} {
		shares(t, rows, nil)
		packs(t, rows, table.Packed{})
		if n := table.Dense(rows); n != 0 {
			t.Errorf("no rows have %d numbers", n)
		}
		p := table.Pack(rows)
		tells(t, p, nil)
		if got := p.Row(0, 2); !slices.Equal(got, []int{0, 0}) {
			t.Errorf("of no rows Row tells %v", got)
		}
	}
}

// P15.1, P15.2; R4: rows of nothing, and of 0 alone, are the same one, which has no number to lay: its place is the first one, whatever lies there.
func TestRowsOfNothing(t *testing.T) {
	for _, row := range [][]int{nil, {}, {0}, {0, 0, 0}, make([]int, 5000)} {
		rows := [][]int{row}
		shares(t, rows, []int{0}, nil)
		packs(t, rows, table.Packed{Ids: []int{0}, Base: []int{0}})
		if n := table.Dense(rows); n != 0 {
			t.Errorf("of %v Dense tells %d", rows, n)
		}
	}
	rows := [][]int{{0, 0}, nil, {}, {0}}
	shares(t, rows, []int{0, 0, 0, 0}, nil)
	packs(t, rows, table.Packed{Ids: []int{0, 0, 0, 0}, Base: []int{0, 0, 0, 0}})
	tells(t, table.Pack(rows), rows)

	rows = [][]int{{4, 5}, {0}, {6}, nil}
	shares(t, rows, []int{0, 1, 2, 1}, []int{4, 5}, nil, []int{6})
	packs(t, rows, table.Packed{Ids: []int{0, 1, 2, 1}, Base: []int{0, 0, 2, 0}, Next: []int{4, 5, 6}, Owner: []int{1, 1, 3}})
	tells(t, table.Pack(rows), rows)
}

// P15.1: rows that differ in 0 at their ends alone are one, whichever comes first; what is told has none there, though within.
func TestZerosAtEnds(t *testing.T) {
	for _, rows := range [][][]int{
		{{1, 0, 2}, {1, 0, 2, 0}, {1, 0, 2, 0, 0, 0}},
		{{1, 0, 2, 0, 0}, {1, 0, 2}, {1, 0, 2, 0}},
	} {
		shares(t, rows, []int{0, 0, 0}, []int{1, 0, 2})
		packs(t, rows, table.Packed{Ids: []int{0, 0, 0}, Base: []int{0, 0, 0}, Next: []int{1, 0, 2}, Owner: []int{1, 0, 1}})
		tells(t, table.Pack(rows), rows)
	}
	shares(t, [][]int{{1}, {1, 0}, {1, 0, 1}, {1, 1}, {1, 1, 0}}, []int{0, 0, 1, 2, 2}, []int{1}, []int{1, 0, 1}, []int{1, 1})
}

// P15.1, P15.2: 0 ahead of a row's first number counts; its place may be ahead of where a number of it lies.
func TestZerosAhead(t *testing.T) {
	rows := [][]int{{7}, {0, 7}, {0, 0, 7}, {0, 7, 0}, {0, 0, 0, 7}}
	shares(t, rows, []int{0, 1, 2, 1, 3}, []int{7}, []int{0, 7}, []int{0, 0, 7}, []int{0, 0, 0, 7})
	packs(t, rows, table.Packed{Ids: []int{0, 1, 2, 1, 3}, Base: []int{0, 0, 0, 0, 0}, Next: []int{7, 7, 7, 7}, Owner: []int{1, 2, 3, 4}})
	tells(t, table.Pack(rows), rows)

	// Where no row has a number ahead of another column nothing ever lies there; a place is none below 0.
	rows = [][]int{{0, 0, 1}, {0, 0, 2}, {0, 3}}
	packs(t, rows, table.Packed{Ids: []int{0, 1, 2}, Base: []int{0, 1, 0}, Next: []int{0, 3, 1, 2}, Owner: []int{0, 3, 1, 2}})
	tells(t, table.Pack(rows), rows)
}

// P15.1: different rows are numbered as they first come, whatever is in them.
func TestOrderOfRows(t *testing.T) {
	shares(t, [][]int{{9}, {1}, {5}, {1}, {9}, {0}, {5}, {-1}, {0, 9}, {}}, []int{0, 1, 2, 1, 0, 3, 2, 4, 5, 3},
		[]int{9}, []int{1}, []int{5}, nil, []int{-1}, []int{0, 9})
}

// P15.1 to P15.3: all numbers but 0 are such as lie somewhere; the least and the greatest ones are like others.
func TestAllNumbers(t *testing.T) {
	rows := [][]int{{math.MinInt, math.MaxInt}, {-1, 0, 1}, {math.MaxInt, math.MinInt}, {math.MinInt, math.MaxInt}, {math.MinInt + 1}, {0, math.MaxInt - 1}}
	shares(t, rows, []int{0, 1, 2, 0, 3, 4}, rows[0], rows[1], rows[2], rows[4], rows[5])
	packs(t, rows, table.Packed{
		Ids: []int{0, 1, 2, 0, 3, 4}, Base: []int{0, 2, 5, 0, 3, 6},
		Next:  []int{math.MinInt, math.MaxInt, -1, math.MinInt + 1, 1, math.MaxInt, math.MinInt, math.MaxInt - 1},
		Owner: []int{1, 1, 2, 4, 2, 3, 3, 5},
	})
	tells(t, table.Pack(rows), rows)
	if n := table.Dense(rows); n != 10 {
		t.Errorf("Dense tells %d, want 10", n)
	}
}

// P15.1: rows are different ones though all their figures, one behind the other, are the same.
func TestRowsThatLookAlike(t *testing.T) {
	for _, rows := range [][][]int{
		{{1, 23}, {12, 3}, {123}, {1, 2, 3}},
		{{0, 1}, {1}, {0, 0, 1}},
		{{1, 0, 1}, {10, 1}, {101}, {1, 1}, {0, 101}},
		{{-1, -2}, {-1, 2}, {1, -2}, {1, 2}, {-12}, {12}, {-1 << 62, 3}},
		{{1, -23}, {12, -3}, {1, 2, -3}, {-1, 23}},
		{{1, 0, 2}, {1, 0, 0, 2}, {1, 2}, {100, 2}},
		{{256}, {0, 1}, {1}, {1 << 32}, {1 << 8, 1}, {257}},
		{{44}, {32}, {',', '1'}, {0x2c31}},
		{{1 << 53}, {1<<53 + 1}, {math.MaxInt}, {math.MaxInt - 1}},
		{{math.MinInt}, {math.MinInt, 1}, {math.MaxInt, 1}, {1 << 62}},
	} {
		var ids []int
		for i := range rows {
			ids = append(ids, i)
		}
		shares(t, rows, ids, rows...)
		shares(t, append(slices.Clone(rows), rows...), append(slices.Clone(ids), ids...), rows...)
		tells(t, table.Pack(rows), rows)
	}
}

// P15.2: a row is laid into the gaps of others, if all its numbers find one.
func TestGaps(t *testing.T) {
	rows := [][]int{{1, 0, 0, 2, 0, 0, 0, 3}, {4, 5}, {6, 7, 8, 9}, {10, 0, 11}, {12}, {13}}
	packs(t, rows, table.Packed{
		Ids: []int{0, 1, 2, 3, 4, 5}, Base: []int{0, 1, 8, 4, 5, 12},
		Next:  []int{1, 4, 5, 2, 10, 12, 11, 3, 6, 7, 8, 9, 13},
		Owner: []int{1, 2, 2, 1, 4, 5, 4, 1, 3, 3, 3, 3, 6},
	})
	tells(t, table.Pack(rows), rows)

	// Two gaps are wide enough, and the first one is taken; later rows are laid ahead of those of earlier ones.
	rows = [][]int{{1, 0, 0, 1, 0, 0, 1}, {2, 2}, {3, 3}, {4}}
	packs(t, rows, table.Packed{
		Ids: []int{0, 1, 2, 3}, Base: []int{0, 1, 4, 7},
		Next: []int{1, 2, 2, 1, 3, 3, 1, 4}, Owner: []int{1, 2, 2, 1, 3, 3, 1, 4},
	})
	rows = [][]int{{0, 0, 0, 1}, {0, 2, 2, 2}, {0, 3, 0, 0, 3}, {4}}
	packs(t, rows, table.Packed{
		Ids: []int{0, 1, 2, 3}, Base: []int{0, 3, 6, 0},
		Next: []int{4, 0, 0, 1, 2, 2, 2, 3, 0, 0, 3}, Owner: []int{4, 0, 0, 1, 2, 2, 2, 3, 0, 0, 3},
	})
	tells(t, table.Pack(rows), rows)
}

// ones is a row of so many numbers.
func ones(n int) []int { return slices.Repeat([]int{1}, n) }

// two is a row of two numbers, with so many columns between them.
func two(x, between, y int) []int { return append(append([]int{x}, make([]int, between)...), y) }

// lies fails the test if the last row is not laid at a place.
func lies(t *testing.T, want int, rows ...[]int) {
	t.Helper()
	p, last := table.Pack(rows), len(rows)-1
	if p.Base[last] != want {
		t.Fatalf("of %v the last one is laid at %d, want %d", rows, p.Base[last], want)
	}
	tells(t, p, rows)
}

// P15.2: the least place is found wherever it is: in gaps, behind all that is full, and where columns are far apart.
func TestLeastPlaces(t *testing.T) {
	for n := range 270 {
		gap := append(append(ones(n), 0, 0), ones(140)...)
		lies(t, n, ones(n), []int{2, 2})
		lies(t, n+1, ones(n), []int{2}, []int{3, 3})
		lies(t, n, gap, []int{2})
		lies(t, n, gap, []int{2, 2})
		lies(t, n+1, gap, []int{2}, []int{3})
		lies(t, n+142, gap, []int{2}, []int{3, 3})
		lies(t, n+142, gap, []int{2, 2, 2})
		lies(t, n+142, gap, []int{2, 2}, []int{3})
		if n > 0 {
			lies(t, n-1, gap, []int{0, 2, 2})
		} else {
			lies(t, 141, gap, []int{0, 2, 2}) // no place is below 0
		}
		lies(t, 1, two(0, n, 2), two(0, n, 3))
		lies(t, n+2, ones(n+2), two(2, n, 3))
		if n > 1 {
			lies(t, 1, two(1, n, 1), []int{2})
			lies(t, 2, two(1, n, 1), []int{2}, two(3, n, 3))
			lies(t, n, gap, two(2, n+200, 3))
			lies(t, n+1, gap, two(2, 0, 2), two(0, 140, 3))
		}
	}
}

// P15.2: Next and Owner end with a number; 0 at a row's end makes them no longer. Ids and Base have a place for each row.
func TestLengths(t *testing.T) {
	for _, x := range []struct {
		rows  [][]int
		cells int
	}{
		{[][]int{{1, 0, 0, 0, 0, 0, 0, 0}}, 1},
		{[][]int{append(make([]int, 99), 1)}, 100},
		{[][]int{append(make([]int, 99), 1), append(ones(99), make([]int, 500)...)}, 100},
		{[][]int{{1, 1}, make([]int, 64), nil, {1, 1, 0}, {0, 2, 0}, {0, 0, 0, 0}}, 3},
		{[][]int{{1, 0, 1}, {2}, {0, 0, 0, 3, 0}, {0, 0, 0, 3}, {4, 0, 0, 0, 0, 0}}, 5},
		{slices.Repeat([][]int{{3}, {3, 0}}, 300), 1},
		{slices.Repeat([][]int{nil}, 300), 0},
		{[][]int{ones(63), {0}, ones(64), ones(65), {2}}, 193},
	} {
		p := table.Pack(x.rows)
		if p.Cells() != x.cells || len(p.Next) != x.cells || len(p.Owner) != x.cells {
			t.Errorf("of %v there are %d cells, %d, %d, want %d", x.rows, p.Cells(), len(p.Next), len(p.Owner), x.cells)
		}
		if x.cells > 0 && (p.Next[x.cells-1] == 0 || p.Owner[x.cells-1] == 0) {
			t.Errorf("of %v the last cell has %d, of %d", x.rows, p.Next[x.cells-1], p.Owner[x.cells-1])
		}
		if len(p.Ids) != len(x.rows) || len(p.Base) != len(x.rows) {
			t.Errorf("of %d rows there are %d ids, %d bases", len(x.rows), len(p.Ids), len(p.Base))
		}
		tells(t, p, x.rows)
	}
}

// P15.3: a row, or a column, that is none has 0.
func TestAtOfNone(t *testing.T) {
	rows := [][]int{{1, 2, 3}, {4, 5, 6}, {0, 7}, nil}
	p := table.Pack(rows)
	tells(t, p, rows)
	for _, n := range far {
		for i := -1; i <= len(rows); i++ {
			if p.At(i, n) != 0 || p.At(n, i) != 0 {
				t.Errorf("At tells %d at %d, %d, and %d at %d, %d", p.At(i, n), i, n, p.At(n, i), n, i)
			}
		}
		for _, m := range far {
			if p.At(n, m) != 0 {
				t.Errorf("At tells %d at %d, %d", p.At(n, m), n, m)
			}
		}
	}
}

// P15.3: what lies in another row's cell is no number of a row's, ahead of its numbers, between them, or behind them.
func TestCellsOfOthers(t *testing.T) {
	rows := [][]int{{1, 0, 1, 0, 1}, {2, 0, 2}, {0, 0, 3}, {4}}
	p := table.Pack(rows)
	if !slices.Equal(p.Owner, []int{1, 2, 1, 2, 1, 3, 4}) {
		t.Fatalf("cells are of %v", p.Owner)
	}
	for row, want := range [][]int{{1, 0, 1, 0, 1, 0, 0, 0}, {2, 0, 2, 0, 0, 0, 0}, {0, 0, 3, 0, 0}, {4, 0, 0}} {
		for col, n := range want {
			if got := p.At(row, col); got != n {
				t.Errorf("At tells %d at %d, %d, want %d", got, row, col, n)
			}
		}
	}
}

// P15.3: a row's first columns are told, whether or not it has, or is, any; MaxBits of them at most, and none of a width below 1.
func TestRow(t *testing.T) {
	long := make([]int, api.MaxBits+200)
	for col := range long {
		long[col] = col % 7
	}
	rows := [][]int{{1, 0, -2}, long, {0, 3}, nil, {1, 0, -2, 0}}
	p := table.Pack(rows)
	for _, row := range append([]int{0, 1, 2, 3, 4, 5, 6}, far...) {
		for _, width := range append([]int{0, 1, 2, 3, 4, 63, 64, 65, api.MaxBits - 1, api.MaxBits, api.MaxBits + 1, api.MaxBits + 150, 5000}, far...) {
			var want []int
			for col := range min(width, 1000) {
				want = append(want, at(rows, row, col))
			}
			if got := p.Row(row, width); !slices.Equal(got, want) {
				t.Errorf("Row(%d, %d) tells %v, want %v", row, width, got, want)
			}
		}
	}
	if got := (table.Packed{}).Row(0, 3); !slices.Equal(got, []int{0, 0, 0}) {
		t.Errorf("of no rows Row tells %v", got)
	}
}

// P15.3: all numbers but 0 count, of each row, of the same ones too.
func TestDense(t *testing.T) {
	for _, x := range []struct {
		rows [][]int
		want int
	}{
		{[][]int{{0, 1}, {2, 0, 3}, {0, 1, 0}}, 4},
		{[][]int{{1}, {1}, {1, 0}, {1, 1}}, 5},
		{[][]int{{0}, nil, {0, 0, 0, 0}}, 0},
		{[][]int{{-1, math.MinInt, math.MaxInt, 0, 1}}, 4},
		{[][]int{ones(1000), make([]int, 1000), ones(1000)}, 2000},
	} {
		if got := table.Dense(x.rows); got != x.want {
			t.Errorf("of %v Dense tells %d, want %d", x.rows, got, x.want)
		}
	}
}

// some are rows of which several are the same, and one has gaps.
func some() [][]int {
	return [][]int{{1, 0, 0, 2, 0}, {3, 4}, {}, {1, 0, 0, 2}, {0, 0}, {5, 0, 5, 0, 0}, {3, 4, 0}}
}

// R5: what is handed in stays as it was, up to what lists have room for.
func TestHandedInStays(t *testing.T) {
	whole, rows := [][]int{}, [][]int{}
	for _, row := range some() {
		all := append(slices.Clone(row), 8, 9)
		whole, rows = append(whole, all), append(rows, all[:len(row)])
	}
	was := deep(whole)
	table.Share(rows)
	table.Pack(rows)
	table.Dense(rows)
	if !same(rows, some()) || !same(whole, was) {
		t.Errorf("rows are %v, were %v", whole, was)
	}
	p := table.Pack(rows)
	p.At(0, 1)
	p.Row(0, 9)
	if !alike(p, table.Pack(some())) {
		t.Errorf("of what is told, it is %v", p)
	}
}

// spoil changes all that a list has room for.
func spoil(l []int) {
	l = l[:cap(l)]
	for i := range l {
		l[i] = -7
	}
}

// R5, and the language's rule 7: answers are new ones, each list by itself; whoever changes one changes no rows, no other list, and nothing that is told later.
func TestAnswersAreNew(t *testing.T) {
	rows := some()
	ids, unlike := table.Share(rows)
	want := deep(unlike)
	spoil(ids)
	for i, l := range unlike {
		spoil(l)
		if !same(unlike[i+1:], want[i+1:]) {
			t.Errorf("whoever changes the row %d has the others be %v", i, unlike[i+1:])
		}
	}
	unlike = unlike[:cap(unlike)]
	for i := range unlike {
		unlike[i] = []int{-7}
	}
	p, other := table.Pack(rows), table.Pack(rows)
	for i, l := range [][]int{p.Ids, p.Base, p.Next, p.Owner} {
		spoil(l)
		behind := [][]int{p.Base, p.Next, p.Owner, nil}[i]
		if slices.Contains(behind, -7) {
			t.Errorf("whoever changes the list %d has the next one be %v", i, behind)
		}
	}
	row := other.Row(0, 4)
	spoil(row)
	if !same(rows, some()) {
		t.Errorf("whoever changes what is told has the rows be %v", rows)
	}
	if !alike(other, table.Pack(some())) {
		t.Errorf("whoever changes what is told has other answers be %v", other)
	}
	tells(t, other, some())
	shares(t, rows, []int{0, 1, 2, 0, 2, 3, 1}, want...)
}

// R5: whoever changes rows afterwards changes nothing that was told of them.
func TestRowsChangedAfterwards(t *testing.T) {
	rows := some()
	ids, unlike := table.Share(rows)
	p := table.Pack(rows)
	for i := range rows {
		spoil(rows[i])
		rows[i] = nil
	}
	tells(t, p, some())
	wantIds, want := table.Share(some())
	if !slices.Equal(ids, wantIds) || !same(unlike, want) {
		t.Errorf("whoever changes the rows has the answer be %v, %v", ids, unlike)
	}
}

// R6: the same rows have the same answers, however often they are asked, and whatever was asked between.
func TestAskedAgain(t *testing.T) {
	p := table.Pack(some())
	ids, unlike := table.Share(some())
	for n := range 100 {
		table.Pack([][]int{ones(n), {n}, {0, n, n}})
		if got := table.Pack(some()); !alike(got, p) {
			t.Fatalf("Pack tells %v, at first %v", got, p)
		}
		shares(t, some(), ids, unlike...)
	}
}

// R1, and the language's rule 4: lists that are put together by hand end in no panic, though nothing is promised of them.
func TestWrongPacked(t *testing.T) {
	numbers := append([]int{0, 1, 2, 3}, far...)
	for _, n := range numbers {
		for _, m := range numbers {
			for _, p := range []table.Packed{
				{Ids: []int{n}, Base: []int{m}, Next: []int{1, 2}, Owner: []int{1, n}},
				{Ids: []int{n, m}, Base: []int{m, n}, Next: []int{1, 2, 3}, Owner: []int{1}},
				{Ids: []int{n, 0}, Base: []int{m}, Owner: []int{n, 1}},
				{Ids: []int{n}, Base: []int{m, 0}, Next: []int{1}},
				{Base: []int{m}, Next: []int{1, 2}, Owner: []int{1, n}},
				{Ids: []int{n}, Next: []int{1, 2}, Owner: []int{1, m}},
			} {
				p.Cells()
				for _, i := range numbers {
					p.Row(i, 3)
					for _, k := range numbers {
						p.At(i, k)
					}
				}
			}
		}
	}
}

// R1: long rows, and many of them, are packed all the same.
func TestManyNumbers(t *testing.T) {
	const long = 1 << 21
	row := make([]int, long)
	row[0], row[long-2] = 1, 2
	other := slices.Clone(row)
	other[long-2] = 3
	p := table.Pack([][]int{row, other, row[:long-1], {4}})
	if p.Cells() != long || p.At(0, long-2) != 2 || p.At(1, long-2) != 3 || p.At(2, long-2) != 2 || p.Base[1] != 1 || p.Base[3] != 2 {
		t.Errorf("of long rows there are %d cells, at %v", p.Cells(), p.Base)
	}

	var rows [][]int
	for i := range 20000 {
		rows = append(rows, []int{i + 1}, []int{0, i + 1})
	}
	if p = table.Pack(rows); p.Cells() != len(rows) || p.At(39998, 0) != 20000 || p.At(39999, 1) != 20000 {
		t.Errorf("of %d rows there are %d cells", len(rows), p.Cells())
	}

	rows = nil
	for i := range 1500 {
		rows = append(rows, slices.Repeat([]int{i + 1}, 1000))
	}
	p = table.Pack(rows)
	for i, base := range p.Base {
		if base != 1000*i || p.At(i, 999) != i+1 {
			t.Fatalf("the full row %d is laid at %d, and has %d", i, base, p.At(i, 999))
		}
	}
}

// P15.4: what is done in an automaton's states is packed, and told, as it was.
func TestGrid(t *testing.T) {
	g, d := reader.Read("%token N [0-9]+ %token P \"+\" %token M \"*\" %token O \"(\" %token C \")\" %left P %left M %% E : E P E | E M E | O E C | O L C | N ; L : | L E ;")
	if d.Code != api.OK {
		t.Fatal(d)
	}
	p, e, name := names.Of(g)
	if e != api.OK {
		t.Fatal(e, name)
	}
	a, _ := states.Build(p, api.MaxCount, api.MaxCount)
	rows := resolve.Of(p, a, look.Of(p, a)).Rows()
	packed := table.Pack(rows)
	tells(t, packed, rows)
	if n := table.Dense(rows); packed.Cells() < n || packed.Cells() >= len(rows)*len(rows[0]) {
		t.Errorf("%d rows, with %d numbers, are in %d cells", len(rows), n, packed.Cells())
	}
}
