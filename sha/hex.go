package sha

import (
	"strings"

	"holdfast/api"
)

const (
	signs    = "0123456789abcdef"
	hexBytes = 64
)

// Hex is a digest as a text.
func Hex(d Digest) string {
	text := make([]byte, 0, hexBytes)
	for _, one := range d {
		text = append(text, signs[one>>4], signs[one&15])
	}
	return string(text)
}

// Parse is a text's digest.
func Parse(s string) (Digest, error) {
	if len(s) != hexBytes {
		return Digest{}, api.ErrForm
	}
	var d Digest
	for i := range d {
		high, low := value(s[2*i]), value(s[2*i+1])
		if high < 0 || low < 0 {
			return Digest{}, api.ErrForm
		}
		d[i] = byte(high<<4 | low)
	}
	return d, nil
}

// value is what a sign stands for, below 0 if it is none.
func value(sign byte) int { return strings.IndexByte(signs, sign) }
