package mean

const (
	or        = "||"
	bits      = 32
	byNothing = 1<<bits - 1 // what is divided by 0
)

type (
	unarySign  func(uint32) uint32
	binarySign func(left, right uint32) uint32
)

func unarySigns() map[string]unarySign {
	return map[string]unarySign{
		"-": func(n uint32) uint32 { return -n },
		"~": func(n uint32) uint32 { return ^n },
		"!": func(n uint32) uint32 { return truth(n == 0) },
	}
}

// binarySigns: all for which both values are reckoned, whatever they are.
func binarySigns() map[string]binarySign {
	return map[string]binarySign{
		"+":  func(l, r uint32) uint32 { return l + r },
		"-":  func(l, r uint32) uint32 { return l - r },
		"*":  func(l, r uint32) uint32 { return l * r },
		"/":  divided,
		"%":  rest,
		"&":  func(l, r uint32) uint32 { return l & r },
		"|":  func(l, r uint32) uint32 { return l | r },
		"^":  func(l, r uint32) uint32 { return l ^ r },
		"<<": func(l, r uint32) uint32 { return l << (r % bits) },
		">>": func(l, r uint32) uint32 { return l >> (r % bits) },
		"==": func(l, r uint32) uint32 { return truth(l == r) },
		"!=": func(l, r uint32) uint32 { return truth(l != r) },
		"<":  func(l, r uint32) uint32 { return truth(int32(l) < int32(r)) },
		"<=": func(l, r uint32) uint32 { return truth(int32(l) <= int32(r)) },
		">":  func(l, r uint32) uint32 { return truth(int32(l) > int32(r)) },
		">=": func(l, r uint32) uint32 { return truth(int32(l) >= int32(r)) },
	}
}

func divided(left, right uint32) uint32 {
	if right == 0 {
		return byNothing
	}
	return left / right
}

func rest(left, right uint32) uint32 {
	if right == 0 {
		return left
	}
	return left % right
}

func truth(so bool) uint32 {
	if so {
		return 1
	}
	return 0
}
