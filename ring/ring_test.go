package ring_test

import (
	"math"
	"slices"
	"testing"

	"raddle/api"
	"raddle/ring"
)

// The signatures that the chapter lists.
var (
	_ func(int) (*ring.Ring, api.Errno) = ring.New
	_ func(*ring.Ring)                  = (*ring.Ring).Clear
	_ func(*ring.Ring)                  = (*ring.Ring).Put
	_ func(*ring.Ring)                  = (*ring.Ring).Inc
	_ func(*ring.Ring) int              = (*ring.Ring).Len
	_ func(*ring.Ring) (int, bool)      = (*ring.Ring).Min
	_ func(*ring.Ring) (int, bool)      = (*ring.Ring).Max
	_ func(*ring.Ring) []int            = (*ring.Ring).List
	_ func(*ring.Ring) int              = (*ring.Ring).Work
)

// made is a ring that must be there.
func made(t *testing.T, most int) *ring.Ring {
	t.Helper()
	r, e := ring.New(most)
	if r == nil || e != api.OK {
		t.Fatal("New", most, r, e)
	}
	return r
}

// model is a ring by the chapter's own words: its counts one by one, rising.
type model struct {
	most, work int
	l          []int
}

func (m *model) do(o byte) {
	m.work++
	switch o {
	case 'c':
		m.l = nil
	case 'p':
		if !slices.Contains(m.l, 1) {
			m.l = slices.Insert(m.l, 0, 1)
		}
	case 'i':
		var l []int
		for _, n := range m.l {
			if n+1 <= m.most {
				l = append(l, n+1)
			}
		}
		m.l = l
	}
}

// do calls Clear (c), Put (p) or Inc (i).
func do(r *ring.Ring, o byte) {
	switch o {
	case 'c':
		r.Clear()
	case 'p':
		r.Put()
	case 'i':
		r.Inc()
	}
}

// doAll calls one of them for each byte.
func doAll(r *ring.Ring, ops string) {
	for i := range len(ops) {
		do(r, ops[i])
	}
}

// check holds all that a ring tells against the counts that it must have.
func check(t *testing.T, r *ring.Ring, work int, want []int) {
	t.Helper()
	if l := r.List(); !slices.Equal(l, want) {
		t.Fatal("List", l, "not", want)
	}
	if n := r.Len(); n != len(want) {
		t.Fatal("Len", n, "of", want)
	}
	least, greatest := 0, 0
	if len(want) > 0 {
		least, greatest = want[0], want[len(want)-1]
	}
	if n, ok := r.Min(); n != least || ok != (len(want) > 0) {
		t.Fatal("Min", n, ok, "of", want)
	}
	if n, ok := r.Max(); n != greatest || ok != (len(want) > 0) {
		t.Fatal("Max", n, ok, "of", want)
	}
	if n := r.Work(); n != work {
		t.Fatal("Work", n, "not", work)
	}
}

func TestNew(t *testing.T) { // P3.1
	for _, most := range []int{math.MinInt, math.MinInt32, -api.MaxCount, -1, 0, api.MaxCount + 1, 2 * api.MaxCount, 1<<32 + 1, math.MaxInt32, math.MaxInt} {
		if r, e := ring.New(most); r != nil || e != api.ErrArg {
			t.Error(most, r, e)
		}
	}
	for most := 1; most <= api.MaxCount; most++ {
		check(t, made(t, most), 0, nil)
	}
}

func TestPut(t *testing.T) { // P3.1
	for _, most := range []int{1, 2, 3, api.MaxCount} {
		r := made(t, most)
		for i := 1; i <= 3; i++ {
			r.Put()
			check(t, r, i, []int{1})
		}
	}
	r := made(t, 5)
	doAll(r, "piipip")
	check(t, r, 6, []int{1, 2, 4})
	r.Put()
	check(t, r, 7, []int{1, 2, 4})
}

func TestInc(t *testing.T) { // P3.1
	r := made(t, 3)
	r.Inc()
	check(t, r, 1, nil) // Inc of no counts
	r.Put()
	check(t, r, 2, []int{1}) // the Inc ahead did not make it more
	r.Inc()
	check(t, r, 3, []int{2})
	r.Inc()
	check(t, r, 4, []int{3}) // most itself stays
	r.Inc()
	check(t, r, 5, nil)
	r.Inc()
	check(t, r, 6, nil)
	r.Put()
	check(t, r, 7, []int{1})
}

func TestClear(t *testing.T) { // P3.1
	for _, ops := range []string{"", "p", "pi", "pipip", "pipipip", "pipipipip", "pipipiii"} {
		r := made(t, 4)
		doAll(r, ops)
		for i := 1; i <= 2; i++ {
			r.Clear()
			check(t, r, len(ops)+i, nil)
		}
		doAll(r, "ipip")
		check(t, r, len(ops)+6, []int{1, 2})
	}
}

func TestMostOne(t *testing.T) { // P3.1, P3.3
	r := made(t, 1)
	for i := range 50 {
		r.Put()
		check(t, r, 2*i+1, []int{1})
		r.Inc()
		check(t, r, 2*i+2, nil)
	}
}

func TestMostMaxCount(t *testing.T) { // P3.1, P3.3
	r := made(t, api.MaxCount)
	var full []int
	for n := 1; n <= api.MaxCount; n++ {
		doAll(r, "ip")
		full = append(full, n)
		if n%512 == 1 || n == api.MaxCount {
			check(t, r, 2*n, full)
		}
	}
	work := 2 * api.MaxCount
	doAll(r, "p") // of a full ring
	check(t, r, work+1, full)
	doAll(r, "ip") // the greatest goes, a new one comes
	check(t, r, work+3, full)
	doAll(r, "i")
	check(t, r, work+4, full[1:])
	for n := 2; n <= api.MaxCount; n++ {
		r.Inc()
		if least, ok := r.Min(); ok != (n < api.MaxCount) || ok && least != n+1 {
			t.Fatal("behind", n, "Incs:", least, ok)
		}
		if r.Len() != api.MaxCount-n {
			t.Fatal("behind", n, "Incs:", r.Len())
		}
	}
	check(t, r, work+3+api.MaxCount, nil)
}

func TestWork(t *testing.T) { // P3.2: Clear, Put and Inc alone, each once, whatever they change
	r := made(t, 2)
	ops := "ccippiiiippcipipipic"
	for i := range len(ops) {
		if r.Work() != i {
			t.Fatal(i, r.Work())
		}
		do(r, ops[i])
		for range 3 {
			r.Len()
			r.Min()
			r.Max()
			r.List()
			r.Work()
		}
	}
	if r.Work() != len(ops) {
		t.Error(r.Work())
	}
}

func TestNilRing(t *testing.T) { // P3.2
	var r *ring.Ring
	check(t, r, 0, nil)
	for _, o := range []byte("pipcippi") {
		do(r, o)
		check(t, r, 0, nil)
	}
}

func TestRingThatNewDidNotMake(t *testing.T) { // DOC.md, Rules 1: no call panics
	var r ring.Ring
	for i, o := range []byte("pipcippi") {
		do(&r, o)
		check(t, &r, i+1, nil)
	}
}

// TestEachRow holds each row of calls, up to a length, against the model behind each of them.
func TestEachRow(t *testing.T) { // P3.1, P3.2
	const long = 8
	for most := 1; most <= 5; most++ {
		row := make([]byte, long)
		for n := range 6561 { // 3^8
			for i := range row {
				row[i] = "cpi"[n%3]
				n /= 3
			}
			r, m := made(t, most), &model{most: most}
			for _, o := range row {
				do(r, o)
				m.do(o)
				check(t, r, m.work, m.l)
			}
		}
	}
}

// mixed is many calls, others for each seed; of 16 calls some share are Puts, and few are Clears.
func mixed(seed uint64, many, puts int) []byte {
	l := make([]byte, many)
	for i := range l {
		seed = seed*6364136223846793005 + 1442695040888963407
		n := int(seed >> 33)
		switch {
		case n%1009 == 0:
			l[i] = 'c'
		case n%16 < puts:
			l[i] = 'p'
		default:
			l[i] = 'i'
		}
	}
	return l
}

func TestMixedRows(t *testing.T) { // P3.1, P3.2, P3.3
	for _, most := range []int{1, 2, 3, 7, 8, 63, 64, 65, 100} {
		for puts := 1; puts <= 15; puts += 2 {
			r, m := made(t, most), &model{most: most}
			for _, o := range mixed(uint64(most*16+puts), 2000, puts) {
				do(r, o)
				m.do(o)
				check(t, r, m.work, m.l)
			}
		}
	}
}

func TestNoneTwiceNoneAboveMost(t *testing.T) { // P3.3
	for _, most := range []int{1, 2, 9, 500, api.MaxCount} {
		r := made(t, most)
		for _, o := range mixed(uint64(most), 1500, 9) {
			do(r, o)
			ahead := 0
			for _, n := range r.List() {
				if n <= ahead || n > most {
					t.Fatal("most", most, "has", r.List())
				}
				ahead = n
			}
			if r.Len() > most {
				t.Fatal("most", most, "has", r.Len())
			}
		}
	}
}

func TestOutBehindMostIncs(t *testing.T) { // P3.3: not one Inc sooner or later, whatever else is put
	for _, most := range []int{1, 2, 3, 50, api.MaxCount} {
		for _, ahead := range []string{"", "i", "pii", "pipipipi", "pipc"} {
			r := made(t, most)
			doAll(r, ahead)
			r.Put()
			for n := 1; n <= most; n++ {
				if n%3 == 0 {
					r.Put()
				}
				if !slices.Contains(r.List(), n) {
					t.Fatal("most", most, "gone as", n)
				}
				r.Inc()
			}
			if slices.Contains(r.List(), most+1) {
				t.Fatal("most", most, "stays")
			}
		}
		r := made(t, most)
		r.Put()
		for range most - 1 {
			r.Inc()
		}
		check(t, r, most, []int{most})
		r.Inc()
		check(t, r, most+1, nil)
	}
}

func TestExample(t *testing.T) {
	r := made(t, 3)
	doAll(r, "pipi")
	check(t, r, 4, []int{2, 3})
	r.Inc()
	check(t, r, 5, []int{3})
}

func TestRingsApart(t *testing.T) { // DOC.md, Rules 6: what one ring is told is nothing to another
	p, q := made(t, 4), made(t, 4)
	doAll(p, "pip")
	check(t, q, 0, nil)
	doAll(q, "pi")
	check(t, p, 3, []int{1, 2})
	p.Clear()
	check(t, q, 2, []int{2})
}

// What is answered is the caller's (DOC.md, Rules 5).
func TestAnswersAreNew(t *testing.T) {
	r := made(t, 4)
	doAll(r, "pipip")
	one, two := r.List(), r.List()
	clear(one[:cap(one)])
	want := []int{1, 2, 3}
	if !slices.Equal(two, want) {
		t.Error("two answers share memory:", two)
	}
	check(t, r, 5, want)
	doAll(r, "i")
	if !slices.Equal(two, want) {
		t.Error("a later call changes what was answered:", two)
	}
}
