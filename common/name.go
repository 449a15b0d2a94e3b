package common

import "keelblock/api"

// IsName reports whether a text is a name as the document's section Terms defines it.
func IsName(s string) bool {
	if !Within(len(s), 1, api.MaxName) || !isLetter(s[0]) {
		return false
	}
	for i := range len(s) {
		if !isLetter(s[i]) && !isDigit(s[i]) && s[i] != '-' {
			return false
		}
	}
	return true
}

func isLetter(c byte) bool { return 'a' <= c && c <= 'z' || 'A' <= c && c <= 'Z' }

func isDigit(c byte) bool { return '0' <= c && c <= '9' }
