package meter_test

import (
	"math"
	"math/big"
	"testing"

	"tronage/api"
	"tronage/meter"
)

// edges are numbers around all places where counts, or the machine's integers, end.
func edges() []int {
	l := []int{math.MinInt, math.MinInt + 1, math.MaxInt - 1, math.MaxInt}
	for _, mid := range []int{0, 1 << 8, 1 << 20, 1 << 24, 1 << 31, 1 << 32, api.MaxCount / 3, api.MaxCount / 2, api.MaxCount, 1 << 41, 1 << 62} {
		for d := -2; d <= 2; d++ {
			l = append(l, mid+d, -mid-d)
		}
	}
	return l
}

// heldBig is a number of any size as a count.
func heldBig(x *big.Int) *big.Int {
	top := big.NewInt(api.MaxCount)
	if x.Sign() < 0 {
		return big.NewInt(0)
	}
	if x.Cmp(top) > 0 {
		return top
	}
	return x
}

// reckoned is what an op of unlimited numbers makes of two that are held ahead, and held again.
func reckoned(a, b int, op func(z, x, y *big.Int) *big.Int) int {
	x, y := heldBig(big.NewInt(int64(a))), heldBig(big.NewInt(int64(b)))
	return int(heldBig(op(new(big.Int), x, y)).Int64())
}

// P1.1
func TestAddAndMulOfPlainCounts(t *testing.T) {
	for _, x := range []struct{ a, b, sum, product int }{
		{0, 0, 0, 0},
		{0, 7, 7, 0},
		{7, 0, 7, 0},
		{1, 1, 2, 1},
		{2, 3, 5, 6},
		{12, 12, 24, 144},
		{1000003, 1009, 1001012, 1009003027},
	} {
		if s := meter.Add(x.a, x.b); s != x.sum {
			t.Errorf("Add(%d, %d) = %d, want %d", x.a, x.b, s, x.sum)
		}
		if p := meter.Mul(x.a, x.b); p != x.product {
			t.Errorf("Mul(%d, %d) = %d, want %d", x.a, x.b, p, x.product)
		}
	}
}

// P1.1
func TestAddAndMulAreHeld(t *testing.T) {
	const top = api.MaxCount
	for _, x := range []struct{ a, b, sum, product int }{
		{-1, 3, 3, 0},
		{3, -1, 3, 0},
		{-5, -7, 0, 0},
		{-top, top, top, 0},
		{math.MinInt, math.MinInt, 0, 0},
		{math.MinInt, math.MaxInt, top, 0},
		{math.MaxInt, math.MaxInt, top, top},
		{math.MaxInt, 1, top, top},
		{math.MaxInt, 0, top, 0},
		{top, 0, top, 0},
		{top - 1, 0, top - 1, 0},
		{top - 1, 1, top, top - 1},
		{top, 1, top, top},
		{top + 1, 1, top, top},
		{top / 2, 2, top/2 + 2, top},
		{top/2 + 1, 2, top/2 + 3, top},
		{top/2 - 1, 2, top/2 + 1, top - 2},
		{1 << 20, 1 << 20, 1 << 21, top},
		{1<<20 + 1, 1<<20 - 1, 1 << 21, top - 1},
		{1<<20 + 1, 1 << 20, 1<<21 + 1, top},
		{1 << 30, 1 << 30, 1 << 31, top},
		{1 << 32, 1 << 32, 1 << 33, top},
		{3 << 31, 1 << 32, 5 << 31, top},
		{top, top, top, top},
	} {
		if s := meter.Add(x.a, x.b); s != x.sum {
			t.Errorf("Add(%d, %d) = %d, want %d", x.a, x.b, s, x.sum)
		}
		if p := meter.Mul(x.a, x.b); p != x.product {
			t.Errorf("Mul(%d, %d) = %d, want %d", x.a, x.b, p, x.product)
		}
	}
}

// P1.1
func TestAddAndMulAgreeWithUnlimitedNumbers(t *testing.T) {
	for _, a := range edges() {
		for _, b := range edges() {
			if s, want := meter.Add(a, b), reckoned(a, b, (*big.Int).Add); s != want {
				t.Errorf("Add(%d, %d) = %d, want %d", a, b, s, want)
			}
			if p, want := meter.Mul(a, b), reckoned(a, b, (*big.Int).Mul); p != want {
				t.Errorf("Mul(%d, %d) = %d, want %d", a, b, p, want)
			}
		}
	}
}

// wants fails the test if a meter does not tell what is wanted of it.
func wants(t *testing.T, m *meter.Meter, limit, used, most int) {
	t.Helper()
	if m.Used() != used || m.Left() != limit-used || m.Most() != most {
		t.Errorf("Used %d, Left %d, Most %d, want %d, %d, %d", m.Used(), m.Left(), m.Most(), used, limit-used, most)
	}
}

// P1.2
func TestNewHoldsItsLimit(t *testing.T) {
	for _, x := range []struct{ limit, held int }{
		{math.MinInt, 0},
		{-1, 0},
		{0, 0},
		{1, 1},
		{5, 5},
		{api.MaxCount - 1, api.MaxCount - 1},
		{api.MaxCount, api.MaxCount},
		{api.MaxCount + 1, api.MaxCount},
		{math.MaxInt, api.MaxCount},
	} {
		m := meter.New(x.limit)
		wants(t, m, x.held, 0, 0)
		if e := m.Take(x.held + 1); e != api.ErrQuota {
			t.Errorf("New(%d): Take of one more than all is %d", x.limit, e)
		}
		if e := m.Take(x.held); e != api.OK {
			t.Errorf("New(%d): Take of all is %d", x.limit, e)
		}
		wants(t, m, x.held, x.held, x.held)
	}
}

// P1.2
func TestExamples(t *testing.T) {
	m := meter.New(5)
	if e := m.Take(3); e != api.OK {
		t.Error(e)
	}
	if e := m.Take(3); e != api.ErrQuota {
		t.Error(e)
	}
	if n := m.Left(); n != 2 {
		t.Error(n)
	}
	if e := m.Give(1); e != api.OK {
		t.Error(e)
	}
	if n := m.Most(); n != 3 {
		t.Error(n)
	}
	if n := m.Reset(); n != 2 {
		t.Error(n)
	}
	if n := meter.Mul(1<<30, 1<<30); n != api.MaxCount {
		t.Error(n)
	}
}

// P1.2
func TestTakeAtItsEdges(t *testing.T) {
	const limit = 10
	for _, x := range []struct {
		n    int
		e    api.Errno
		used int
	}{
		{math.MinInt, api.ErrArg, 4},
		{-1, api.ErrArg, 4},
		{0, api.OK, 4},
		{1, api.OK, 5},
		{6, api.OK, 10},
		{7, api.ErrQuota, 4},
		{10, api.ErrQuota, 4},
		{api.MaxCount, api.ErrQuota, 4},
		{math.MaxInt, api.ErrQuota, 4},
	} {
		m := meter.New(limit)
		m.Take(4)
		if e := m.Take(x.n); e != x.e {
			t.Errorf("Take(%d) = %d, want %d", x.n, e, x.e)
		}
		wants(t, m, limit, x.used, x.used)
	}
}

// P1.2
func TestGiveAtItsEdges(t *testing.T) {
	const limit = 10
	for _, x := range []struct {
		n    int
		e    api.Errno
		used int
	}{
		{math.MinInt, api.ErrArg, 4},
		{-1, api.ErrArg, 4},
		{0, api.OK, 4},
		{1, api.OK, 3},
		{4, api.OK, 0},
		{5, api.ErrArg, 4},
		{10, api.ErrArg, 4},
		{api.MaxCount, api.ErrArg, 4},
		{math.MaxInt, api.ErrArg, 4},
	} {
		m := meter.New(limit)
		m.Take(4)
		if e := m.Give(x.n); e != x.e {
			t.Errorf("Give(%d) = %d, want %d", x.n, e, x.e)
		}
		wants(t, m, limit, x.used, 4)
	}
}

// P1.2
func TestNothingUsedIsNotGiven(t *testing.T) {
	m := meter.New(10)
	if e := m.Give(1); e != api.ErrArg {
		t.Error(e)
	}
	if e := m.Give(0); e != api.OK {
		t.Error(e)
	}
	wants(t, m, 10, 0, 0)
}

// P1.2: what is taken is refused by the plain number, though it would be held to a count that is left.
func TestTakeAboveMaxCountIsRefused(t *testing.T) {
	m := meter.New(api.MaxCount)
	for _, n := range []int{api.MaxCount + 1, math.MaxInt} {
		if e := m.Take(n); e != api.ErrQuota {
			t.Errorf("Take(%d) = %d", n, e)
		}
	}
	wants(t, m, api.MaxCount, 0, 0)
	m.Take(api.MaxCount)
	if e := m.Give(api.MaxCount + 1); e != api.ErrArg {
		t.Error(e)
	}
	wants(t, m, api.MaxCount, api.MaxCount, api.MaxCount)
}

// P1.2
func TestMostStays(t *testing.T) {
	m := meter.New(10)
	m.Take(6)
	wants(t, m, 10, 6, 6)
	m.Give(4)
	wants(t, m, 10, 2, 6)
	m.Take(3)
	wants(t, m, 10, 5, 6)
	if n := m.Reset(); n != 5 {
		t.Error(n)
	}
	wants(t, m, 10, 0, 6)
	if n := m.Reset(); n != 0 {
		t.Error(n)
	}
	m.Take(7)
	wants(t, m, 10, 7, 7)
	m.Take(4)
	wants(t, m, 10, 7, 7)
}

// P1.2, and R6: meters know nothing of one another.
func TestMetersAreApart(t *testing.T) {
	a, b := meter.New(10), meter.New(10)
	a.Take(7)
	wants(t, b, 10, 0, 0)
	b.Take(9)
	b.Reset()
	wants(t, a, 10, 7, 7)
	wants(t, b, 10, 0, 9)
}

// The ops of a meter that change it.
const (
	take = iota
	give
	reset
)

// model is what the chapter tells of a meter, in numbers that never come near the machine's ends.
type model struct{ limit, used, most int }

// does is what an op answers.
func (x *model) does(op, n int) int {
	switch {
	case op == reset:
		was := x.used
		x.used = 0
		return was
	case n < 0 || op == give && n > x.used:
		return int(api.ErrArg)
	case op == take && n > x.limit-x.used:
		return int(api.ErrQuota)
	case op == give:
		x.used -= n
	default:
		x.used += n
	}
	x.most = max(x.most, x.used)
	return int(api.OK)
}

// do lets a meter do an op.
func do(m *meter.Meter, op, n int) int {
	switch op {
	case take:
		return int(m.Take(n))
	case give:
		return int(m.Give(n))
	}
	return m.Reset()
}

// call is an op, and its number.
type call struct{ op, n int }

// calls are all that walks are made of.
func calls() []call {
	l := []call{{reset, 0}}
	for _, n := range []int{-1, 0, 1, 2, 4} {
		l = append(l, call{take, n}, call{give, n})
	}
	return l
}

// P1.3, and P1.2: all walks of five calls agree with the model, and no step of them goes above the limit.
func TestAllShortWalks(t *testing.T) {
	const limit, length = 3, 5
	all := calls()
	count := 1
	for range length {
		count *= len(all)
	}
	for walk := range count {
		m, want := meter.New(limit), model{limit: limit}
		for rest, i := walk, 0; i < length; i++ {
			x := all[rest%len(all)]
			rest /= len(all)
			used, most := m.Used(), m.Most()
			got := do(m, x.op, x.n)
			if got != want.does(x.op, x.n) || m.Used() != want.used || m.Left() != limit-want.used || m.Most() != want.most {
				t.Fatalf("walk %d, call %d (%v): %d, used %d, left %d, most %d, want %v", walk, i, x, got, m.Used(), m.Left(), m.Most(), want)
			}
			if m.Used() < 0 || m.Used() > limit || m.Left() < 0 || m.Most() > limit {
				t.Fatalf("walk %d, call %d (%v): used %d, most %d of %d", walk, i, x, m.Used(), m.Most(), limit)
			}
			if x.op != reset && got != int(api.OK) && (m.Used() != used || m.Most() != most) {
				t.Fatalf("walk %d, call %d (%v): refused, but changed", walk, i, x)
			}
		}
	}
}

// P1.3: what is refused changes nothing, of a full meter too.
func TestRefusedChangesNothing(t *testing.T) {
	for _, limit := range []int{0, 1, 5, api.MaxCount} {
		m := meter.New(limit)
		m.Take(limit)
		for _, n := range []int{math.MinInt, -api.MaxCount, -1, 1, limit + 1, api.MaxCount, api.MaxCount + 1, math.MaxInt} {
			if e := m.Take(n); n < 0 && e != api.ErrArg || n > 0 && e != api.ErrQuota {
				t.Errorf("limit %d: Take(%d) = %d", limit, n, e)
			}
			wants(t, m, limit, limit, limit)
			if n >= 0 && n <= limit {
				continue
			}
			if e := m.Give(n); e != api.ErrArg {
				t.Errorf("limit %d: Give(%d) = %d", limit, n, e)
			}
			wants(t, m, limit, limit, limit)
		}
	}
}
