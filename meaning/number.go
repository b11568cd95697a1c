package meaning

import (
	"math"

	"clause/api"
)

func calculated(kind, a, b int) int {
	switch kind {
	case api.Add:
		return sum(a, b)
	case api.Sub:
		return difference(a, b)
	case api.Mul:
		return product(a, b)
	case api.Div:
		return quotient(a, b)
	}
	return remainder(a, b)
}

func negative(a int) int {
	must(a != math.MinInt, api.ErrOver)
	return -a
}

func sum(a, b int) int {
	if b > 0 {
		must(a <= math.MaxInt-b, api.ErrOver)
	} else {
		must(a >= math.MinInt-b, api.ErrOver)
	}
	return a + b
}

func difference(a, b int) int {
	if b > 0 {
		must(a >= math.MinInt+b, api.ErrOver)
	} else {
		must(a <= math.MaxInt+b, api.ErrOver)
	}
	return a - b
}

func product(a, b int) int {
	switch a {
	case 0:
		return 0
	case -1:
		// The way back would wrap round too, and so hide that this one does.
		return negative(b)
	}
	must(a*b/a == b, api.ErrOver)
	return a * b
}

func quotient(a, b int) int {
	must(b != 0, api.ErrZero)
	must(a != math.MinInt || b != -1, api.ErrOver)
	return a / b
}

func remainder(a, b int) int {
	must(b != 0, api.ErrZero)
	return a % b
}
