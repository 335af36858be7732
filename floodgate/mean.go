package floodgate

import (
	"strings"

	"floodgate/api"
)

// Mean unpacks a whole stream without quotas (P5). Only Raw is built: of the other formats nothing is let through.
func Mean(format int, s string) (string, api.Errno) {
	if format != api.Raw {
		return "", api.ErrConfig
	}
	m := newMachine()
	m.offer(s)
	var out strings.Builder
	for m.run() == full {
		out.Write(m.waiting.Take(api.Room))
	}
	out.Write(m.waiting.Take(api.Room))
	if e := m.verdict(); e != api.OK {
		return "", e
	}
	return out.String(), api.OK
}
