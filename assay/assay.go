// Package assay: can these clauses be met? See DOC.md.
package assay

import "assay/api"

// Solve tells whether clauses can be met (P6, P7).
func Solve(text string, room int) (api.Answer, api.Errno) { return api.Answer{}, api.OK }

// Luby tells numbers of Luby's sequence (P5).
func Luby(i int) (int, api.Errno) {
	if i < 1 || i > api.MaxLuby {
		return 0, api.ErrArg
	}
	return lubyNumber(i), api.OK
}
