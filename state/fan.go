package state

import (
	"sync"
	"sync/atomic"

	"qloom/api"
)

// apart is behind how many forks a branch gets no goroutine of its own any
// more: each that is under way holds a wave, and there are only so many
// processors.
const apart = 4

// fan follows all branches of a run whose outcomes can come.
type fan[T any] struct {
	tell func(*run) T // what is told of a branch at its end
	met  atomic.Int64 // branches that were met: each leads to one that is told, or to more
}

// branches tells of all branches of a run, in the order of their tapes; false,
// if they are too many.
func branches[T any](r *run, tell func(*run) T) ([]T, bool) {
	f := &fan[T]{tell: tell}
	f.met.Store(1)
	out := f.follow(r, 0)
	return out, !f.tooMany()
}

// tooMany: have more branches been met than are told? Once it is so it stays
// so, whichever of them were met first.
func (f *fan[T]) tooMany() bool { return f.met.Load() > api.MaxFan }

// follow tells of all branches that a run leads to, which has that many forks behind it.
func (f *fan[T]) follow(r *run, forks int) []T {
	for !f.tooMany() {
		if !r.asks() {
			return []T{f.tell(r)}
		}
		switch {
		case !r.can(1):
			r.take(0)
		case !r.can(0):
			r.take(1)
		default:
			return f.fork(r, forks+1)
		}
	}
	return nil
}

// fork follows both branches of a run whose next outcome can be either.
func (f *fan[T]) fork(r *run, forks int) []T {
	f.met.Add(1)
	other := r.clone()
	r.take(0)
	other.take(1)
	if forks > apart {
		return append(f.follow(r, forks), f.follow(other, forks)...)
	}
	var lower, upper []T
	var both sync.WaitGroup
	both.Go(func() { lower = f.follow(r, forks) })
	both.Go(func() { upper = f.follow(other, forks) })
	both.Wait()
	return append(lower, upper...)
}
