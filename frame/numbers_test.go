package frame_test

import (
	"testing"

	"tronage/api"
)

// The document's section Numbers.
func TestErrorsHaveTheirNumbers(t *testing.T) {
	for want, e := range map[int]api.Errno{
		0: api.OK, 1: api.ErrArg, 2: api.ErrRange, 3: api.ErrFull, 4: api.ErrNone, 5: api.ErrQuota,
		10: api.ErrByte, 11: api.ErrOpen, 12: api.ErrLong, 13: api.ErrDeep, 14: api.ErrWord,
		15: api.ErrTwice, 16: api.ErrName, 17: api.ErrLoose, 18: api.ErrBarren,
		20: api.ErrConflict, 21: api.ErrToken, 22: api.ErrReject,
		30: api.ErrExpr, 31: api.ErrCode, 32: api.ErrZero, 33: api.ErrTree,
	} {
		if int(e) != want {
			t.Errorf("an error is %d, want %d", e, want)
		}
		if e.Error() == "" {
			t.Errorf("error %d tells no words", want)
		}
	}
}

func TestLimitsAreTheDocuments(t *testing.T) {
	for i, x := range [][2]int{
		{api.MaxCount, 1 << 40}, {api.MaxBits, 1000}, {api.MaxRoom, 64}, {api.MaxSource, 4000},
		{api.MaxName, 32}, {api.MaxText, 32}, {api.MaxAction, 200}, {api.MaxNest, 4},
		{api.MaxTokens, 20}, {api.MaxSkips, 4}, {api.MaxLevels, 10}, {api.MaxRules, 40},
		{api.MaxRight, 8}, {api.MaxInput, 1000}, {api.MaxUnits, 4}, {api.MaxRequests, 32},
		{api.MaxTenants, 8},
	} {
		if x[0] != x[1] {
			t.Errorf("limit %d is %d, want %d", i, x[0], x[1])
		}
	}
}

func TestKindsHaveTheirNumbers(t *testing.T) {
	for i, x := range [][]int{
		{0, api.MarkEnd, api.MarkName, api.MarkWord, api.MarkText, api.MarkClass, api.MarkMany, api.MarkColon, api.MarkBar, api.MarkSemi, api.MarkAction},
		{1, api.Left, api.Right, api.None},
		{0, api.ActError, api.ActShift, api.ActReduce, api.ActAccept},
		{0, api.RunGoes, api.RunTree, api.RunReject, api.RunQuota},
		{1, api.Num, api.Val, api.Node, api.Neg, api.Add, api.Sub, api.Mul, api.Div, api.Mod},
		{1, api.IntVal, api.TreeVal, api.BadVal},
		{1, api.AnsDone, api.AnsDiag, api.AnsName, api.AnsAct, api.AnsClash, api.AnsTree, api.AnsReject, api.AnsToken, api.AnsQuota, api.AnsNone},
		{1, api.ReqDefine, api.ReqParse},
		{1, api.EvRegister, api.EvSubmit, api.EvPick},
	} {
		for k, n := range x[1:] {
			if n != x[0]+k {
				t.Errorf("list %d: kind %d is %d, want %d", i, k, n, x[0]+k)
			}
		}
	}
}
