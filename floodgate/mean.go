package floodgate

import (
	"strings"

	"floodgate/api"
)

// Mean unpacks a whole stream without quotas (P5).
func Mean(format int, s string) (string, api.Errno) {
	if !isFormat(format) {
		return "", api.ErrConfig
	}
	m := newMachine(withoutQuotas(format))
	var out strings.Builder
	for m.run(s[m.tally.taken:]) == full {
		out.Write(m.waiting.Take(api.Room))
	}
	out.Write(m.waiting.Take(api.Room))
	if e := m.verdict(); e != api.OK {
		return "", e
	}
	return out.String(), api.OK
}
