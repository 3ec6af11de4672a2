package inst

import (
	"math"

	"crossroads/api"
)

// What A may be at most, where it is not always 0.
const (
	number   = math.MaxUint16
	local    = api.MaxLocals - 1
	place    = api.MaxCode - 1
	oneName  = api.MaxNames - 1
	twoNames = api.MaxNames*oneName + oneName // the elder, and the new one
)

// row is what the chapter's table tells of an instruction.
type row struct {
	name         string
	takes, gives int
	most         int // of A
}

// find answers op's row; false, if there is no such instruction.
func find(op int) (row, bool) {
	if op < api.IPush || op > api.IArg {
		return row{}, false
	}
	return fromTable(op), true
}

// fromTable makes the table, a row for each instruction at its number, and answers the one at op. It picks the row itself, as a table that is answered whole would be copied at each call.
func fromTable(op int) row {
	return [...]row{
		api.IPush:   {"push", 0, 1, number},
		api.IPop:    {"pop", 1, 0, 0},
		api.IDup:    {"dup", 1, 2, 0},
		api.ISwap:   {"swap", 2, 2, 0},
		api.IAdd:    {"add", 2, 1, 0},
		api.ISub:    {"sub", 2, 1, 0},
		api.IMul:    {"mul", 2, 1, 0},
		api.IDiv:    {"div", 2, 1, 0},
		api.IMod:    {"mod", 2, 1, 0},
		api.IAnd:    {"and", 2, 1, 0},
		api.IOr:     {"or", 2, 1, 0},
		api.IXor:    {"xor", 2, 1, 0},
		api.IShl:    {"shl", 2, 1, 0},
		api.IShr:    {"shr", 2, 1, 0},
		api.IEq:     {"eq", 2, 1, 0},
		api.ILt:     {"lt", 2, 1, 0},
		api.INot:    {"not", 1, 1, 0},
		api.IGet:    {"get", 0, 1, local},
		api.ISet:    {"set", 1, 0, local},
		api.ILoad:   {"load", 1, 1, 0},
		api.IStore:  {"store", 2, 0, 0},
		api.IJump:   {"jump", 0, 0, place},
		api.IZero:   {"zero", 1, 0, place},
		api.IOut:    {"out", 1, 0, 0},
		api.IAssert: {"assert", 1, 0, 0},
		api.IExit:   {"exit", 1, 0, 0},
		api.IOpen:   {"open", 0, 1, oneName},
		api.IClose:  {"close", 1, 1, 0},
		api.IRead:   {"read", 3, 1, 0},
		api.IWrite:  {"write", 3, 1, 0},
		api.ISeek:   {"seek", 2, 1, 0},
		api.ISize:   {"size", 1, 1, 0},
		api.IUnlink: {"unlink", 0, 1, oneName},
		api.IRename: {"rename", 0, 1, twoNames},
		api.IMkdir:  {"mkdir", 0, 1, oneName},
		api.IRmdir:  {"rmdir", 0, 1, oneName},
		api.IList:   {"list", 0, 1, oneName},
		api.ITrunc:  {"trunc", 2, 1, 0},
		api.ITwin:   {"twin", 1, 1, 0},
		api.IArgc:   {"argc", 0, 1, 0},
		api.IArg:    {"arg", 2, 1, 0},
	}[op]
}
