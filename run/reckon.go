package run

import (
	"cloister/api"
	"cloister/tree"
)

// Reckon answers what a and b come to, with sign between them.
func Reckon(sign string, a, b int) (int, api.Errno) {
	switch tree.Level(sign) {
	case 0:
		return 0, api.ErrWho
	case 1, 2, 3:
		return bit(holds(sign, a, b)), api.OK
	}
	return amount(sign, a, b), api.OK
}

// holds: do a and b stand to each other as sign, one of the Levels 1 to 3,
// says?
func holds(sign string, a, b int) bool {
	switch sign {
	case "||":
		return a != 0 || b != 0
	case "&&":
		return a != 0 && b != 0
	case "==":
		return a == b
	case "!=":
		return a != b
	case "<":
		return a < b
	case "<=":
		return a <= b
	case ">":
		return a > b
	}
	return a >= b
}

// amount answers what a and b come to by sign, one of the Levels 4 and 5.
func amount(sign string, a, b int) int {
	switch {
	case sign == "+":
		return a + b
	case sign == "-":
		return a - b
	case sign == "*":
		return a * b
	case b == 0:
		return 0
	case sign == "/":
		return a / b
	}
	return a % b
}

// bit answers the number of a Bool.
func bit(b bool) int {
	if b {
		return 1
	}
	return 0
}
