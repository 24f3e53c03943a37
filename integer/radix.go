package integer

import "bytes"

// radix is the base of digits. Numbers are calculated with in groups of so many digits that a product of two groups fits a uint64, since that takes far fewer steps than digit by digit.
type radix struct {
	base  uint64
	size  int    // the number of digits of a group
	group uint64 // the base of the groups: base to the power of size
}

func octetRadix() radix { return radix{base: 256, size: 4, group: 1 << 32} }

func decimalRadix() radix { return radix{base: 10, size: 9, group: 1_000_000_000} }

// groups returns the groups of digits. The last one is complete, and the first one may have fewer digits.
func (r radix) groups(digits []byte) []uint64 {
	all := make([]uint64, (len(digits)+r.size-1)/r.size)
	for i := range len(digits) {
		behind := (len(digits) - 1 - i) / r.size
		at := len(all) - 1 - behind
		all[at] = all[at]*r.base + uint64(digits[i])
	}
	return all
}

// digits returns the digits of a number whose groups are given from the lowest one on, without zeros at the beginning.
func (r radix) digits(groups []uint64) []byte {
	all := make([]byte, len(groups)*r.size)
	end := len(all)
	for _, group := range groups {
		for range r.size {
			end--
			all[end] = byte(group % r.base)
			group /= r.base
		}
	}
	return bytes.TrimLeft(all, "\x00")
}

// converted returns the digits in the radix to of a number that has the digits in the radix from, without zeros at the beginning (none for 0).
func converted(digits []byte, from, to radix) []byte {
	var low []uint64 // the groups of the result so far, from the lowest one on
	for _, group := range from.groups(digits) {
		carry := group
		for i := range len(low) {
			carry += low[i] * from.group
			low[i] = carry % to.group
			carry /= to.group
		}
		for carry > 0 {
			low = append(low, carry%to.group)
			carry /= to.group
		}
	}
	return to.digits(low)
}
