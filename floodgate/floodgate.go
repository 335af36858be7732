// Package floodgate unpacks what may be hostile, within fixed bounds: see DOC.md.
package floodgate

import "floodgate/api"

// Gate unpacks a stream that comes in pieces.
type Gate struct{}

// Open makes a gate (P6).
func Open(c api.Config) (*Gate, api.Errno) { return nil, api.OK }

// Write offers pieces; how many bytes were taken (P7).
func (g *Gate) Write(pieces ...string) (int, api.Errno) { return 0, api.OK }

// Drain takes bytes out (P8).
func (g *Gate) Drain(n int) (string, api.Errno) { return "", api.OK }

// Close tells that no more bytes come (P9).
func (g *Gate) Close() api.Errno { return api.OK }

// Tell tells how things stand (P10).
func (g *Gate) Tell() api.State { return api.State{} }
