package code

import "beadle/api"

// What stands behind the word of an operation, or in its place.
const (
	bare     = iota // nothing
	withX           // the number
	withN           // N
	toPlace         // N, which is a place
	oneNamed        // nothing; the word is that of the operation on one number
	twoNamed        // nothing; the word is that of the operation on two numbers
)

// shape is what an operation asks of its instructions. The greatest N of a place is that of the longest program.
type shape struct {
	word        string
	kind        int
	least, most int // of N
	takes, lays int
}

var shapes = [api.OpHalt + 1]shape{
	api.OpPush:   {"push", withX, 0, 0, 0, 1},
	api.OpDrop:   {"drop", bare, 0, 0, 1, 0},
	api.OpDup:    {"dup", bare, 0, 0, 1, 2},
	api.OpSwap:   {"swap", bare, 0, 0, 2, 2},
	api.OpPick:   {"pick", withN, 0, api.MaxStack - 1, 0, 1},
	api.OpArg:    {"arg", withN, 0, api.MaxArgs - 1, 0, 1},
	api.OpGet:    {"get", withN, 0, api.MaxLocals - 1, 0, 1},
	api.OpSet:    {"set", withN, 0, api.MaxLocals - 1, 1, 0},
	api.OpOne:    {"", oneNamed, api.OneNeg, api.OneHash, 1, 1},
	api.OpTwo:    {"", twoNamed, api.TwoAdd, api.TwoAhead, 2, 1},
	api.OpJump:   {"jump", toPlace, 0, api.MaxCode - 1, 0, 0},
	api.OpIf:     {"if", toPlace, 0, api.MaxCode - 1, 1, 0},
	api.OpUnless: {"unless", toPlace, 0, api.MaxCode - 1, 1, 0},
	api.OpCall:   {"call", toPlace, 0, api.MaxCode - 1, 0, 0},
	api.OpRet:    {"ret", bare, 0, 0, 0, 0},
	api.OpRead:   {"read", bare, 0, 0, 1, 1},
	api.OpWrite:  {"write", bare, 0, 0, 2, 0},
	api.OpEmit:   {"emit", bare, 0, 0, 1, 0},
	api.OpAbort:  {"abort", withN, 0, api.MaxAbort, 0, 0},
	api.OpHalt:   {"halt", bare, 0, 0, 0, 0},
}

var oneWords = [api.OneHash + 1]string{
	api.OneNeg:   "neg",
	api.OneAbs:   "abs",
	api.OneFloor: "floor",
	api.OneRoot:  "root",
	api.OneNot:   "not",
	api.OneIsNaN: "isnan",
	api.OneSign:  "sign",
	api.OneHash:  "hash",
}

var twoWords = [api.TwoAhead + 1]string{
	api.TwoAdd:    "add",
	api.TwoSub:    "sub",
	api.TwoMul:    "mul",
	api.TwoDiv:    "div",
	api.TwoMod:    "mod",
	api.TwoMin:    "min",
	api.TwoMax:    "max",
	api.TwoLess:   "less",
	api.TwoAtMost: "atmost",
	api.TwoEqual:  "equal",
	api.TwoSame:   "same",
	api.TwoAhead:  "ahead",
}

// known tells whether there is such an operation.
func known(op int) bool { return op > api.OpNone && op <= api.OpHalt }

// fits tells whether N may be beside an operation that there is, a place in the longest program.
func fits(op, n int) bool { return n >= shapes[op].least && n <= shapes[op].most }

// outside tells whether an instruction's place is none of a program of so many.
func outside(in api.Instr, many int) bool {
	return shapes[in.Op].kind == toPlace && in.N >= many
}

// named is the instruction that a word begins, with its N where the word tells it.
func named(word string) (api.Instr, bool) {
	// Where a table has no word it has the empty one, which is nobody's.
	if word == "" {
		return api.Instr{}, false
	}
	for op, s := range shapes {
		if s.word == word {
			return api.Instr{Op: op}, true
		}
	}
	for n, w := range oneWords {
		if w == word {
			return api.Instr{Op: api.OpOne, N: n}, true
		}
	}
	for n, w := range twoWords {
		if w == word {
			return api.Instr{Op: api.OpTwo, N: n}, true
		}
	}
	return api.Instr{}, false
}
