package decoy

import (
	"testing"
	"time"

	"wigeon/api"
)

// TestWaits tests that each method waits for the end of another call, which would
// be seen by chance only, or by the race detector, if several goroutines called it.
func TestWaits(t *testing.T) {
	for name, call := range map[string]func(d *Decoy) bool{
		"Do":     func(d *Decoy) bool { return d.Do("day") == api.OK },
		"Day":    func(d *Decoy) bool { return d.Day() == 2 },
		"Wind":   func(d *Decoy) bool { p, known := d.Wind(); return p == 8 && known },
		"Worked": func(d *Decoy) bool { return len(d.Worked()) == 1 },
		"Birds":  func(d *Decoy) bool { return len(d.Birds()) == 3 },
		"Bird":   func(d *Decoy) bool { _, e := d.Bird(made(0)); return e == api.OK },
		"Left":   func(d *Decoy) bool { n, e := d.Left(0); return n == 7 && e == api.OK },
		"Catch":  func(d *Decoy) bool { c, e := d.Catch(0); return c.Caught == 2 && e == api.OK },
		"Guess":  func(d *Decoy) bool { g, e := d.Guess(0); return g.Num == 2 && e == api.OK },
		"Pages":  func(d *Decoy) bool { return len(d.Pages()) == 15 },
		"Root":   func(d *Decoy) bool { return d.Root() != 0 },
		"Prove":  func(d *Decoy) bool { proof, e := d.Prove(0); return len(proof) == 4 && e == api.OK },
		"Audit":  func(d *Decoy) bool { return d.Audit() },
	} {
		d := audited(t)
		result := make(chan bool, 1)
		d.mutex.Lock()
		go func() { result <- call(d) }()
		select {
		case <-result:
			t.Errorf("%s does not wait", name)
			d.mutex.Unlock()
			continue
		case <-time.After(10 * time.Millisecond):
		}
		d.mutex.Unlock()
		if !<-result {
			t.Errorf("%s has a wrong result", name)
		}
		if !d.mutex.TryLock() {
			t.Errorf("%s does not release the mutex", name)
		}
	}
}
