package pattern

import "spotter/api"

func kindOf(c byte) int {
	if c == '.' {
		return api.AnyKind
	}
	if c >= 'a' && c < 'a'+api.MaxKinds {
		return int(c - 'a')
	}
	return -1
}

func nameOf(c byte) int {
	if c >= 'A' && c <= 'Z' {
		return int(c - 'A')
	}
	return NoName
}

func digitOf(c byte) int {
	if c >= '0' && c <= '9' {
		return int(c - '0')
	}
	return -1
}

func fieldOf(c byte) int {
	switch c {
	case 't':
		return api.FieldT
	case 'x':
		return api.FieldX
	case 'y':
		return api.FieldY
	case 'z':
		return api.FieldZ
	}
	return -1
}

func relOf(c byte) int {
	switch c {
	case '<':
		return api.Below
	case '>':
		return api.Above
	case '=':
		return api.Same
	case '#':
		return api.Other
	}
	return -1
}

func arithOf(c byte) int {
	switch c {
	case '+':
		return api.Plus
	case '-':
		return api.Minus
	case '*':
		return api.Times
	}
	return api.Alone
}
