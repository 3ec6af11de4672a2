package inst

import (
	"math"

	"crossroads/api"
)

// told is a row of the chapter's table, with the instruction's number in package api and as it stands in a program.
type told struct {
	op, number   int
	name         string
	takes, gives int
	most         int // of A; the least is 0
}

// chapter is the chapter's table, row by row, in the order of the numbers.
func chapter() []told {
	return []told{
		{api.IPush, 1, "push", 0, 1, 65535},
		{api.IPop, 2, "pop", 1, 0, 0},
		{api.IDup, 3, "dup", 1, 2, 0},
		{api.ISwap, 4, "swap", 2, 2, 0},
		{api.IAdd, 5, "add", 2, 1, 0},
		{api.ISub, 6, "sub", 2, 1, 0},
		{api.IMul, 7, "mul", 2, 1, 0},
		{api.IDiv, 8, "div", 2, 1, 0},
		{api.IMod, 9, "mod", 2, 1, 0},
		{api.IAnd, 10, "and", 2, 1, 0},
		{api.IOr, 11, "or", 2, 1, 0},
		{api.IXor, 12, "xor", 2, 1, 0},
		{api.IShl, 13, "shl", 2, 1, 0},
		{api.IShr, 14, "shr", 2, 1, 0},
		{api.IEq, 15, "eq", 2, 1, 0},
		{api.ILt, 16, "lt", 2, 1, 0},
		{api.INot, 17, "not", 1, 1, 0},
		{api.IGet, 18, "get", 0, 1, api.MaxLocals - 1},
		{api.ISet, 19, "set", 1, 0, api.MaxLocals - 1},
		{api.ILoad, 20, "load", 1, 1, 0},
		{api.IStore, 21, "store", 2, 0, 0},
		{api.IJump, 22, "jump", 0, 0, api.MaxCode - 1},
		{api.IZero, 23, "zero", 1, 0, api.MaxCode - 1},
		{api.IOut, 24, "out", 1, 0, 0},
		{api.IAssert, 25, "assert", 1, 0, 0},
		{api.IExit, 26, "exit", 1, 0, 0},
		{api.IOpen, 27, "open", 0, 1, api.MaxNames - 1},
		{api.IClose, 28, "close", 1, 1, 0},
		{api.IRead, 29, "read", 3, 1, 0},
		{api.IWrite, 30, "write", 3, 1, 0},
		{api.ISeek, 31, "seek", 2, 1, 0},
		{api.ISize, 32, "size", 1, 1, 0},
		{api.IUnlink, 33, "unlink", 0, 1, api.MaxNames - 1},
		{api.IRename, 34, "rename", 0, 1, api.MaxNames*api.MaxNames - 1},
		{api.IMkdir, 35, "mkdir", 0, 1, api.MaxNames - 1},
		{api.IRmdir, 36, "rmdir", 0, 1, api.MaxNames - 1},
		{api.IList, 37, "list", 0, 1, api.MaxNames - 1},
		{api.ITrunc, 38, "trunc", 2, 1, 0},
		{api.ITwin, 39, "twin", 1, 1, 0},
		{api.IArgc, 40, "argc", 0, 1, 0},
		{api.IArg, 41, "arg", 2, 1, 0},
	}
}

const first, last = 1, 41

// strangers are numbers of no instruction: one below the first and one above the last, the ends of int, and some that would be an instruction's if their high bits or their sign were lost.
func strangers() []int {
	l := []int{first - 1, last + 1, math.MinInt, math.MinInt + 1, math.MaxInt - 1, math.MaxInt}
	for op := first; op <= last; op++ {
		l = append(l, -op, op-64, op+64, op-256, op+256, op+1<<16, op+1<<32, op-1<<32, op+math.MinInt)
	}
	for n := last + 1; n <= 1<<10; n++ {
		l = append(l, n, -n)
	}
	return l
}

// wrong are numbers that A may not be where it is at most that: below 0, and above; some would be one that it may be if their high bits or their sign were lost.
func wrong(most int) []int {
	l := []int{-1, -2, most + 1, most + 2, math.MinInt, math.MinInt + 1, math.MaxInt - 1, math.MaxInt}
	for _, a := range []int{0, 1, most} {
		l = append(l, a-1<<16, a+1<<16, a-1<<32, a+1<<32, a+math.MinInt)
	}
	for _, a := range []int{most, 1, 1 << 8, 1 << 16} {
		l = append(l, -a-1, -a-most-1, most+a+1)
	}
	return l
}
