package isa

import "cloister/api"

// imm is which numbers an op takes.
type imm int

const (
	none     imm = iota // 0 alone
	signed              // all of the form's bits, in two's complement
	offset              // likewise, to the register A: so it is written, too
	unsigned            // the lowest 18 bits
	count               // of bits by which a number is moved
)

const (
	mostUnsigned = 1<<18 - 1
	mostCount    = 31
)

// row is what is known of an op.
type row struct {
	name  string
	form  api.Form
	takes imm
}

// ops has a row for each op, by its number; 0 is none.
var ops = [...]row{
	api.OpAdd:   {"add", api.FormDAB, none},
	api.OpSub:   {"sub", api.FormDAB, none},
	api.OpMul:   {"mul", api.FormDAB, none},
	api.OpDivu:  {"divu", api.FormDAB, none},
	api.OpRemu:  {"remu", api.FormDAB, none},
	api.OpAnd:   {"and", api.FormDAB, none},
	api.OpOr:    {"or", api.FormDAB, none},
	api.OpXor:   {"xor", api.FormDAB, none},
	api.OpShl:   {"shl", api.FormDAB, none},
	api.OpShr:   {"shr", api.FormDAB, none},
	api.OpSar:   {"sar", api.FormDAB, none},
	api.OpSlt:   {"slt", api.FormDAB, none},
	api.OpSltu:  {"sltu", api.FormDAB, none},
	api.OpAddi:  {"addi", api.FormDAI, signed},
	api.OpAndi:  {"andi", api.FormDAI, unsigned},
	api.OpOri:   {"ori", api.FormDAI, unsigned},
	api.OpXori:  {"xori", api.FormDAI, unsigned},
	api.OpShli:  {"shli", api.FormDAI, count},
	api.OpShri:  {"shri", api.FormDAI, count},
	api.OpSari:  {"sari", api.FormDAI, count},
	api.OpSlti:  {"slti", api.FormDAI, signed},
	api.OpSltui: {"sltui", api.FormDAI, signed},
	api.OpLui:   {"lui", api.FormDI, unsigned},
	api.OpLb:    {"lb", api.FormDAI, offset},
	api.OpLbu:   {"lbu", api.FormDAI, offset},
	api.OpLh:    {"lh", api.FormDAI, offset},
	api.OpLhu:   {"lhu", api.FormDAI, offset},
	api.OpLw:    {"lw", api.FormDAI, offset},
	api.OpSb:    {"sb", api.FormABI, offset},
	api.OpSh:    {"sh", api.FormABI, offset},
	api.OpSw:    {"sw", api.FormABI, offset},
	api.OpBeq:   {"beq", api.FormABI, signed},
	api.OpBne:   {"bne", api.FormABI, signed},
	api.OpBlt:   {"blt", api.FormABI, signed},
	api.OpBge:   {"bge", api.FormABI, signed},
	api.OpBltu:  {"bltu", api.FormABI, signed},
	api.OpBgeu:  {"bgeu", api.FormABI, signed},
	api.OpJal:   {"jal", api.FormDI, signed},
	api.OpJalr:  {"jalr", api.FormDAI, signed},
	api.OpHcall: {"hcall", api.FormI, unsigned},
	api.OpClock: {"clock", api.FormD, none},
	api.OpWait:  {"wait", api.FormNone, none},
	api.OpEi:    {"ei", api.FormNone, none},
	api.OpDi:    {"di", api.FormNone, none},
	api.OpEret:  {"eret", api.FormNone, none},
	api.OpVec:   {"vec", api.FormA, none},
	api.OpHalt:  {"halt", api.FormNone, none},
	api.OpNop:   {"nop", api.FormNone, none},
}

func isOp(op api.Op) bool { return op > 0 && int(op) < len(ops) }

// rowOf tells of what is no op a row of noughts.
func rowOf(op api.Op) row {
	if !isOp(op) {
		return row{}
	}
	return ops[op]
}

// immBounds is from where to where the numbers go that an op takes.
func immBounds(op api.Op) (int32, int32) {
	switch rowOf(op).takes {
	case signed, offset:
		half := int32(1) << (layoutOf(op).imm - 1)
		return -half, half - 1
	case unsigned:
		return 0, mostUnsigned
	case count:
		return 0, mostCount
	}
	return 0, 0
}
