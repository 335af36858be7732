package floodgate

import (
	"math"

	"floodgate/api"
)

func isFormat(format int) bool {
	return format == api.Raw || format == api.Short || format == api.Long
}

// mayBe tells whether a gate may be opened with a configuration.
func mayBe(c api.Config) bool {
	return isFormat(c.Format) &&
		isFrom(0, c.Out, api.MaxOut) &&
		isFrom(0, c.Ratio, api.MaxRatio) &&
		isFrom(0, c.Slack, api.MaxSlack) &&
		isFrom(1, c.Members, api.MaxMembers) &&
		isFrom(0, c.Head, api.MaxHead) &&
		isFrom(0, c.Steps, api.MaxSteps)
}

func isFrom(least, n, most int) bool {
	return least <= n && n <= most
}

// withoutQuotas leaves the Ratio at 0, as nothing may be added to the greatest Slack.
func withoutQuotas(format int) api.Config {
	return api.Config{
		Format:  format,
		Out:     math.MaxInt,
		Slack:   math.MaxInt,
		Members: math.MaxInt,
		Head:    math.MaxInt,
		Steps:   math.MaxInt,
	}
}

// tally is what is counted through the whole stream.
type tally struct {
	taken, put int // bytes
	members    int // that were begun
}

// steps tells how many there were: each is a byte taken or put out.
func (t tally) steps() int { return t.taken + t.put }

// againstTake tells which quota another byte taken would pass.
func (t tally) againstTake(c api.Config) api.Errno {
	if t.steps() >= c.Steps {
		return api.ErrSteps
	}
	return api.OK
}

// againstPut tells which quota another byte put out would pass, the one that comes first.
func (t tally) againstPut(c api.Config) api.Errno {
	switch {
	case t.steps() >= c.Steps:
		return api.ErrSteps
	case t.put >= c.Out:
		return api.ErrOut
	case t.put >= c.Ratio*t.taken+c.Slack:
		return api.ErrRatio
	}
	return api.OK
}
