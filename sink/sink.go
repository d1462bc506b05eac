// Package sink takes bytes in: all of them, or only so many.
package sink

import (
	"errors"
	"strings"
)

// Sink is what bytes are written into. Write answers how many of them it took,
// and an error if these were not all.
type Sink interface {
	Write(p []byte) (n int, err error)
}

var errFull = errors.New("the sink is full")

// whole takes all bytes.
type whole struct {
	taken strings.Builder
}

// part takes bytes as long as there is room.
type part struct {
	taken strings.Builder
	room  int
}

// New makes a sink that takes the first bytes up to room, or all, if room is
// below 0.
func New(room int) Sink {
	if room < 0 {
		return &whole{}
	}
	return &part{room: room}
}

func (w *whole) Write(p []byte) (int, error) {
	return w.taken.Write(p)
}

// Write takes of a piece that is too long what there is room for.
func (t *part) Write(p []byte) (int, error) {
	n := min(len(p), t.room)
	t.taken.Write(p[:n])
	t.room -= n
	if n < len(p) {
		return n, errFull
	}
	return n, nil
}

// Taken is the bytes that a sink took.
func Taken(s Sink) string {
	switch kind := s.(type) {
	case *whole:
		return kind.taken.String()
	case *part:
		return kind.taken.String()
	default:
		return ""
	}
}
