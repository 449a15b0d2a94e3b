package permit

import (
	"strings"

	"keelblock/api"
)

const (
	letters = "ABCDEFGHIJKLMNOPQRSTUVWXYZabcdefghijklmnopqrstuvwxyz"
	inNames = letters + "0123456789-"
)

// isName stands here although package common has one: this package uses package api alone.
func isName(s string) bool {
	return within(len(s), 1, api.MaxName) && strings.Contains(letters, s[:1]) && strings.Trim(s, inNames) == ""
}

func within(n, least, most int) bool { return least <= n && n <= most }

func isMinute(n int) bool { return within(n, 0, api.MaxMinutes) }
