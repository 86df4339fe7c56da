package scan_test

import (
	"testing"

	"gabion/api"
	"gabion/scan"
)

// starts are walks of all kinds: empty ones, behind each frame of a file, closed ones, resumed ones, some with the most entries and beyond.
func starts(t *testing.T) []*pair {
	t.Helper()
	l := []*pair{fresh()}
	for _, one := range longFile(30).all {
		p := l[len(l)-1].clone()
		if p.next(t, one.f, int(one.at)) != api.OK {
			t.Fatalf("a frame that does not follow")
		}
		l = append(l, p)
	}
	for _, frames := range []int64{0, 4, 60, 248, 252, 256, 260} {
		l = append(l, resume(t, frames, 77, 5, pairs))
	}
	return l
}

// goOn are ways in which a walk may go on, each for some frames.
func goOn(p *pair, way, step int) (api.Frame, int) {
	at := 5000 + 100*step + way
	number := p.words.Number()
	switch way {
	case 0:
		return p.words.ownData(1+step, "a"), at
	case 1:
		return p.words.ownData(60, "other"), at
	case 2:
		return schemaFrame(number+1, []api.Schema{texts, floats}[step%2]), at
	case 3:
		return schemaFrame(number+1, []api.Schema{nested, ints}[step%2]), at
	case 4:
		return p.words.ownIndex(int64(at)), at
	case 5:
		s, _ := p.words.Schema(number)
		return schemaFrame(number, s), at
	}
	if step%3 == 0 {
		return schemaFrame(number+1, pairs), at
	}
	return p.words.ownData(step, ""), at
}

// TestClone: P14.3, R5: a Walk and its Clone go on with unlike frames, each first, and in turn; neither changes the other.
func TestClone(t *testing.T) {
	for _, start := range starts(t) {
		for one := range 7 {
			for two := range 7 {
				p := start.clone()
				q := p.clone()
				q.stands(t)
				for step := range 6 {
					f, at := goOn(p, one, step)
					p.next(t, f, at)
					q.stands(t)
					f, at = goOn(q, two, step)
					q.next(t, f, at)
					p.stands(t)
				}
				q.stands(t)
			}
		}
		start.stands(t)
	}
}

// TestCloneOfClone: P14.3, R5: clones of clones, of mixed walks.
func TestCloneOfClone(t *testing.T) {
	for k := range uint64(25) {
		all, r := []*pair{fresh()}, &source{mixedBytes(k+1000, 900, 0)}
		for i := 0; len(r.left) > 20; i++ {
			if len(all) < 8 && r.next()%4 == 0 {
				all = append(all, all[r.next()%len(all)].clone())
			}
			r.step(t, all[r.next()%len(all)], 10*i)
			for _, p := range all {
				p.stands(t)
			}
		}
	}
}

// TestCloneOfWhole: R5: the walk that Whole tells is the caller's: what it takes changes nothing of the next one.
func TestCloneOfWhole(t *testing.T) {
	l := longFile(12)
	d := device(l.b)
	first, at, _ := scan.Whole(d)
	before := standing(first, 3, exact)
	second, _, _ := scan.Whole(d)
	if e := first.Next(schemaFrame(1, texts), at); e != api.OK {
		t.Fatalf("Next: %d", e)
	}
	third, _, _ := scan.Whole(d)
	if standing(second, 3, exact) != before || standing(third, 3, exact) != before || standing(first, 3, exact) == before {
		t.Fatalf("walks of one file hang together")
	}
}
