package text

import (
	"strconv"
	"strings"

	"graticule/api"
)

// maxNumber is the greatest number that is read; the least one is as far from 0.
const maxNumber = 1 << 60

// Number answers the number whose digits these are.
func Number(s string) (int, api.Errno) {
	if !decimal(s) {
		return 0, api.ErrForm
	}
	n, err := strconv.Atoi(s)
	if err != nil || n < -maxNumber || n > maxNumber {
		// of digits alone, Atoi refuses just what no int is.
		return 0, api.ErrRange
	}
	return n, api.OK
}

// Digits answers the digits of a number.
func Digits(n int) string {
	return strconv.Itoa(n)
}

// decimal tells whether these are a number's digits, however great it is.
func decimal(s string) bool {
	digits := strings.TrimPrefix(s, "-")
	if digits == "" || digits[0] == '0' && s != "0" {
		return false
	}
	for _, r := range digits {
		if r < '0' || r > '9' {
			return false
		}
	}
	return true
}
