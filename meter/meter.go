// Package meter is layer 1: see shared/doc/01-meter.md.
package meter

import "tronage/api"

// held is a number as a count: one that is out of range is put to the nearer end.
func held(n int) int {
	return min(max(n, 0), api.MaxCount)
}

// Add is the sum of two counts, held at MaxCount.
func Add(a, b int) int {
	// Both are held ahead, so the sum cannot round the machine's integers.
	return held(held(a) + held(b))
}

// Mul is the product of two counts, held at MaxCount.
func Mul(a, b int) int {
	a, b = held(a), held(b)
	// Two counts may make 2^80, so the product is asked by a division first.
	if b > 0 && a > api.MaxCount/b {
		return api.MaxCount
	}
	return a * b
}

// Meter counts up to a limit.
type Meter struct {
	limit, used, most int
}

// New is a meter of a limit, of which nothing is used.
func New(limit int) *Meter {
	return &Meter{limit: held(limit)}
}

// Take uses n more, if so much is left.
func (m *Meter) Take(n int) api.Errno {
	if n < 0 {
		return api.ErrArg
	}
	if n > m.Left() {
		return api.ErrQuota
	}
	m.used += n
	m.most = max(m.most, m.used)
	return api.OK
}

// Give gives n back, if so much is used.
func (m *Meter) Give(n int) api.Errno {
	if n < 0 || n > m.used {
		return api.ErrArg
	}
	m.used -= n
	return api.OK
}

// Used is what is used.
func (m *Meter) Used() int { return m.used }

// Left is the limit less what is used.
func (m *Meter) Left() int { return m.limit - m.used }

// Most is the most that was used at any time.
func (m *Meter) Most() int { return m.most }

// Reset gives all back, and tells how much that was.
func (m *Meter) Reset() int {
	was := m.used
	m.used = 0
	return was
}
