// Package assay: can these clauses be met? See DOC.md.
package assay

import (
	"assay/api"
	"assay/drat"
	"assay/luby"
	"assay/search"
	"assay/sink"
)

// Solve tells whether clauses can be met (P6, P7).
func Solve(text string, room int) (api.Answer, api.Errno) {
	vars, clauses, err := drat.Read(text)
	if err != api.OK {
		return api.Answer{}, err
	}
	out := sink.New(room)
	values, met, failed := search.Run(vars, clauses, out)
	answer := api.Answer{Verdict: verdict(met, failed), Values: values, Proof: sink.Taken(out)}
	return answer, api.OK
}

func verdict(met bool, failed error) int {
	switch {
	case failed != nil:
		return api.Sunk
	case met:
		return api.Met
	default:
		return api.Never
	}
}

// Luby tells numbers of Luby's sequence (P5).
func Luby(i int) (int, api.Errno) {
	if i < 1 || i > api.MaxLuby {
		return 0, api.ErrArg
	}
	return luby.Number(i), api.OK
}
