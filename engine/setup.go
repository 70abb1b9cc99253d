package engine

import (
	"slices"

	"beadle/api"
	"beadle/mem"
)

// faultOf is a setup's error. All that counts things comes ahead of the calls themselves, so each list is gone over only once it is known to be short.
func faultOf(s api.Setup) api.Errno {
	if _, e := mem.Place(s.Config); e != api.OK || len(s.Start) > s.Config.Cells {
		return api.ErrArg
	}
	if tooMany(s) {
		return api.ErrMany
	}
	for _, calls := range s.Threads {
		for _, call := range calls {
			if !mayBe(call, len(s.Programs)) {
				return api.ErrArg
			}
		}
	}
	return api.OK
}

func tooMany(s api.Setup) bool {
	if len(s.Programs) > api.MaxPrograms || len(s.Threads) > s.Config.Threads {
		return true
	}
	for _, calls := range s.Threads {
		if len(calls) > api.MaxTurns {
			return true
		}
	}
	return false
}

func mayBe(call api.Call, programs int) bool {
	return call.Program >= 0 && call.Program < programs && len(call.Args) <= api.MaxArgs
}

// ownPrograms is the programs in the engine's own memory: whoever made the setup may change it while threads still go through it.
func ownPrograms(l []api.Program) []api.Program {
	own := make([]api.Program, len(l))
	for i, p := range l {
		own[i] = api.Program{Tag: p.Tag, Code: slices.Clone(p.Code)}
	}
	return own
}

// ownCalls is likewise a thread's calls.
func ownCalls(l []api.Call) []api.Call {
	own := make([]api.Call, len(l))
	for i, call := range l {
		own[i] = api.Call{Program: call.Program, Args: slices.Clone(call.Args)}
	}
	return own
}
