// Package num: numbers, and steps. See doc/01-num.md.
package num

import (
	"math"
	"strconv"

	"whelk/api"
)

// Fuel is how many steps are left.
type Fuel struct{ Left int }

// Add tells a + b.
func Add(a, b int64) (int64, api.Errno) {
	sum := a + b
	// Only a sum that wrapped round lies on the wrong side of a.
	if (sum < a) != (b < 0) {
		return 0, api.ErrRange
	}
	return sum, api.OK
}

// Sub tells a - b.
func Sub(a, b int64) (int64, api.Errno) {
	diff := a - b
	// Only a difference that wrapped round lies on the wrong side of a.
	if (diff > a) != (b < 0) {
		return 0, api.ErrRange
	}
	return diff, api.OK
}

// Mul tells a * b.
func Mul(a, b int64) (int64, api.Errno) {
	if b == 0 {
		return 0, api.OK
	}
	// Dividing back can't tell this one: the division wraps round too.
	if leastByMinusOne(a, b) {
		return 0, api.ErrRange
	}
	product := a * b
	if product/b != a {
		return 0, api.ErrRange
	}
	return product, api.OK
}

// Div tells a / b, cut off towards nought.
func Div(a, b int64) (int64, api.Errno) {
	if b == 0 || leastByMinusOne(a, b) {
		return 0, api.ErrRange
	}
	return a / b, api.OK
}

// Mod tells what a / b leaves over, with a's sign.
func Mod(a, b int64) (int64, api.Errno) {
	if b == 0 {
		return 0, api.ErrRange
	}
	return a % b, api.OK
}

// leastByMinusOne tells the one pair whose quotient is no int64.
func leastByMinusOne(a, b int64) bool {
	return a == math.MinInt64 && b == -1
}

// Parse tells the number that s is the text of.
func Parse(s string) (int64, api.Errno) {
	negative, digits := splitSign(s)
	// All of the form is looked at ahead of the size: ErrForm goes ahead of ErrRange.
	if !allDigits(digits) {
		return 0, api.ErrForm
	}
	most := uint64(math.MaxInt64)
	if negative {
		most++
	}
	size, err := sizeOf(digits, most)
	if err != api.OK {
		return 0, err
	}
	if negative {
		// Taken as unsigned, so that the least number has its size as well.
		return int64(0 - size), api.OK
	}
	return int64(size), api.OK
}

// splitSign parts a sign, if there is one, from what is behind it.
func splitSign(s string) (negative bool, rest string) {
	if s == "" {
		return false, ""
	}
	switch s[0] {
	case '-':
		negative = true
		fallthrough
	case '+':
		return negative, s[1:]
	}
	return false, s
}

// allDigits tells whether s is decimal digits, one at least.
func allDigits(s string) bool {
	for i := range len(s) {
		if s[i] < '0' || s[i] > '9' {
			return false
		}
	}
	return s != ""
}

// sizeOf tells the number that digits are of, unless it is above most.
func sizeOf(digits string, most uint64) (uint64, api.Errno) {
	size := uint64(0)
	for i := range len(digits) {
		digit := uint64(digits[i] - '0')
		if size > (most-digit)/10 {
			return 0, api.ErrRange
		}
		size = size*10 + digit
	}
	return size, api.OK
}

// Text tells n in decimal digits.
func Text(n int64) string {
	return strconv.FormatInt(n, 10)
}

// Use takes n steps; where fewer are left, it takes these and tells ErrFuel.
func (f *Fuel) Use(n int) api.Errno {
	if n < 0 {
		return api.ErrArg
	}
	if f.Left < n {
		f.Left = 0
		return api.ErrFuel
	}
	f.Left -= n
	return api.OK
}
