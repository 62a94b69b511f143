package snap_test

import (
	"encoding/binary"
	"math"
	"math/rand"
	"reflect"
	"slices"
	"strconv"
	"strings"
	"testing"

	"prebend/api"
	"prebend/snap"
)

const (
	mostFunds  = 8
	mostAllocs = 16
	mostRates  = 16
	mostJobs   = 16
	mostDraws  = 16
	mostKeys   = 8
	mostName   = 16
	// How many bytes a state without anything has, and one with as much of all as there may be.
	fewest = 64
	whole  = fewest + mostFunds*(2+16+16) + mostAllocs*48 + mostRates*24 + mostJobs*(96+mostDraws*16) + mostKeys*(2+16)
)

func TestLimits(t *testing.T) {
	if api.MaxFunds != mostFunds || api.MaxAllocs != mostAllocs || api.MaxRates != mostRates || api.MaxJobs != mostJobs || api.MaxKeys != mostKeys || api.MaxName != mostName {
		t.Error(api.MaxFunds, api.MaxAllocs, api.MaxRates, api.MaxJobs, api.MaxKeys, api.MaxName)
	}
}

var ends = []int{
	0, 1, -1, 2, -2, 16, 17, 127, 128, 255, 256, 258, -128, -256, 65535, 65536, 1<<31 - 1, 1 << 31, 1<<32 - 1, 1 << 32, -1 << 31, -1 << 32,
	api.MaxTime, api.MaxAmount, -api.MaxAmount, math.MaxInt - 1, math.MaxInt, math.MinInt + 1, math.MinInt, 0x0102030405060708, -0x0102030405060708,
}

var names = []string{
	"", "a", "ab", "\x00", "\x00\x00", "\xff", "\xff\xfe\x80", "käse", "a b", "a\nb\r\t", "\x00\x01a", "日本語日本", "fifteen letters", "sixteen letters!", strings.Repeat("\x00", 16), strings.Repeat("\xff", 16),
}

var longNames = []string{
	"seventeen letters", strings.Repeat("\x00", 17), strings.Repeat("a", 18), "日本語日本語", strings.Repeat("a", 255), strings.Repeat("a", 256), strings.Repeat("a", 272), strings.Repeat("a", 65535),
}

// Names of which two bytes don't tell how many they have.
var endlessNames = []string{strings.Repeat("a", 65536), strings.Repeat("a", 65552), strings.Repeat("a", 1<<20)}

// numbersOf: where a state has its numbers, in the order of the chapter.
func numbersOf(s *api.State) []*int {
	list := []*int{&s.Seq, &s.World, &s.Next}
	for i := range s.Funds {
		f := &s.Funds[i]
		list = append(list, &f.Parent, &f.Limit)
	}
	for i := range s.Allocs {
		a := &s.Allocs[i]
		list = append(list, &a.Fund, &a.From, &a.Until, &a.Avail, &a.Liened, &a.Spent)
	}
	for i := range s.Rates {
		r := &s.Rates[i]
		list = append(list, &r.QoS, &r.From, &r.Price)
	}
	for i := range s.Jobs {
		j := &s.Jobs[i]
		list = append(list, &j.ID, &j.Fund, &j.Nodes, &j.Wall, &j.QoS, &j.Prio, &j.Price, &j.State, &j.Start, &j.Mask, &j.Used)
		for k := range j.Draws {
			list = append(list, &j.Draws[k].Alloc, &j.Draws[k].Amount)
		}
	}
	return list
}

// textsOf: where a state has its texts.
func textsOf(s *api.State) []*string {
	var list []*string
	for i := range s.Funds {
		list = append(list, &s.Funds[i].Name)
	}
	for i := range s.Keys {
		list = append(list, &s.Keys[i])
	}
	return list
}

// with: so many of each, and all numbers and texts are different.
func with(funds, allocs, rates, jobs, draws, keys int) api.State {
	s := api.State{Funds: make([]api.Fund, funds), Allocs: make([]api.Alloc, allocs), Rates: make([]api.Rate, rates), Jobs: make([]api.Job, jobs), Keys: make([]string, keys)}
	for i := range s.Jobs {
		s.Jobs[i].Draws = make([]api.Draw, draws)
	}
	for i, n := range numbersOf(&s) {
		*n = 1001 * (i + 1) * (1 - i%3)
	}
	for i, text := range textsOf(&s) {
		*text = "text " + strconv.Itoa(i)
	}
	return s
}

// small: a state that has something of all.
func small() api.State { return with(2, 2, 2, 2, 2, 2) }

// most: a state that has as much of all as there may be.
func most() api.State {
	s := with(mostFunds, mostAllocs, mostRates, mostJobs, mostDraws, mostKeys)
	for _, text := range textsOf(&s) {
		*text += strings.Repeat(".", mostName-len(*text))
	}
	return s
}

// edit: a state that is a little different.
func edit(s api.State, how func(*api.State)) api.State {
	how(&s)
	return s
}

// The words of the chapter, and of chapter 3, one by one.

// laid: bytes, and where they tell how much there is of something.
type laid struct {
	b     []byte
	marks []mark
}

// mark: so many bytes from one on tell how much there is of something, and how much there may be.
type mark struct{ at, size, most int }

func (l *laid) numbers(list ...int) {
	for _, n := range list {
		l.b = binary.BigEndian.AppendUint64(l.b, uint64(n))
	}
}

func (l *laid) many(n, most int) {
	l.marks = append(l.marks, mark{len(l.b), 8, most})
	l.numbers(n)
}

func (l *laid) text(s string) {
	l.marks = append(l.marks, mark{len(l.b), 2, mostName})
	l.b = append(binary.BigEndian.AppendUint16(l.b, uint16(len(s))), s...)
}

// layOut: a state's bytes, even if it has too much of something.
func layOut(s api.State) *laid {
	l := &laid{}
	l.numbers(s.Seq, s.World, s.Next)
	l.many(len(s.Funds), mostFunds)
	for _, f := range s.Funds {
		l.text(f.Name)
		l.numbers(f.Parent, f.Limit)
	}
	l.many(len(s.Allocs), mostAllocs)
	for _, a := range s.Allocs {
		l.numbers(a.Fund, a.From, a.Until, a.Avail, a.Liened, a.Spent)
	}
	l.many(len(s.Rates), mostRates)
	for _, r := range s.Rates {
		l.numbers(r.QoS, r.From, r.Price)
	}
	l.many(len(s.Jobs), mostJobs)
	for _, j := range s.Jobs {
		l.numbers(j.ID, j.Fund, j.Nodes, j.Wall, j.QoS, j.Prio, j.Price, j.State, j.Start, j.Mask, j.Used)
		l.many(len(j.Draws), mostDraws)
		for _, d := range j.Draws {
			l.numbers(d.Alloc, d.Amount)
		}
	}
	l.many(len(s.Keys), mostKeys)
	for _, k := range s.Keys {
		l.text(k)
	}
	return l
}

// tooMuch: has a state, whose texts have no more than 65535 bytes, too much of something?
func tooMuch(s api.State) bool {
	l := layOut(s)
	return slices.ContainsFunc(l.marks, func(m mark) bool {
		_, n := m.told(l.b)
		return n > m.most
	})
}

// told: the bytes of a mark, and what they tell.
func (m mark) told(b []byte) ([]byte, int) {
	var n uint64
	for _, c := range b[m.at : m.at+m.size] {
		n = n<<8 + uint64(c)
	}
	return b[m.at : m.at+m.size], int(n)
}

// put: bytes in which a mark tells something else.
func (m mark) put(b []byte, n int) []byte {
	b = slices.Clone(b)
	piece, _ := m.told(b)
	for i := range piece {
		piece[len(piece)-1-i] = byte(uint64(n) >> (8 * i))
	}
	return b
}

// picker: what bytes tell, piece by piece, as long as they have the next piece.
type picker struct {
	b   []byte
	bad bool
}

func (p *picker) next(size, most int) []byte {
	if p.bad = p.bad || size < 0 || size > most || size > len(p.b); p.bad {
		return make([]byte, 8)
	}
	piece := p.b[:size]
	p.b = p.b[size:]
	return piece
}

func (p *picker) number() int { return int(binary.BigEndian.Uint64(p.next(8, 8))) }

func (p *picker) text() string {
	size := int(binary.BigEndian.Uint16(p.next(2, 2)))
	return string(p.next(size, mostName))
}

// each: as often as the next number says, if that is not too much.
func (p *picker) each(most int, one func()) {
	n := p.number()
	p.bad = p.bad || n < 0 || n > most
	for i := 0; i < n && !p.bad; i++ {
		one()
	}
}

func stateOf(b []byte) (api.State, api.Errno) {
	p := &picker{b: b}
	s := api.State{Seq: p.number(), World: p.number(), Next: p.number()}
	p.each(mostFunds, func() {
		s.Funds = append(s.Funds, api.Fund{Name: p.text(), Parent: p.number(), Limit: p.number()})
	})
	p.each(mostAllocs, func() {
		s.Allocs = append(s.Allocs, api.Alloc{Fund: p.number(), From: p.number(), Until: p.number(), Avail: p.number(), Liened: p.number(), Spent: p.number()})
	})
	p.each(mostRates, func() {
		s.Rates = append(s.Rates, api.Rate{QoS: p.number(), From: p.number(), Price: p.number()})
	})
	p.each(mostJobs, func() {
		j := api.Job{ID: p.number(), Fund: p.number(), Nodes: p.number(), Wall: p.number(), QoS: p.number(), Prio: p.number(), Price: p.number(), State: p.number(), Start: p.number(), Mask: p.number(), Used: p.number()}
		p.each(mostDraws, func() { j.Draws = append(j.Draws, api.Draw{Alloc: p.number(), Amount: p.number()}) })
		s.Jobs = append(s.Jobs, j)
	})
	p.each(mostKeys, func() { s.Keys = append(s.Keys, p.text()) })
	if p.bad || len(p.b) > 0 {
		return api.State{}, api.ErrForm
	}
	return s, api.OK
}

func sameJob(x, y api.Job) bool {
	if !slices.Equal(x.Draws, y.Draws) {
		return false
	}
	x.Draws, y.Draws = nil, nil
	return reflect.DeepEqual(x, y)
}

// sameState: but for lists that are nil here and empty there.
func sameState(x, y api.State) bool {
	return x.Seq == y.Seq && x.World == y.World && x.Next == y.Next && slices.Equal(x.Funds, y.Funds) && slices.Equal(x.Allocs, y.Allocs) &&
		slices.Equal(x.Rates, y.Rates) && slices.EqualFunc(x.Jobs, y.Jobs, sameJob) && slices.Equal(x.Keys, y.Keys)
}

// spare: a list of one's own with room behind it, in which there is something.
func spare[E any](list []E, behind E) []E {
	return append(slices.Clone(list), behind, behind, behind)[:len(list)]
}

// roomy: a state of one's own, whose lists have something in the room behind them.
func roomy(s api.State) api.State {
	s.Funds = spare(s.Funds, api.Fund{Name: "behind", Parent: 77, Limit: 77})
	s.Allocs = spare(s.Allocs, api.Alloc{Fund: 77, Avail: 77})
	s.Rates = spare(s.Rates, api.Rate{QoS: 77, Price: 77})
	s.Jobs = spare(s.Jobs, api.Job{ID: 77, Draws: []api.Draw{{Alloc: 77, Amount: 77}}})
	for i, j := range s.Jobs {
		s.Jobs[i].Draws = spare(j.Draws, api.Draw{Alloc: 77, Amount: 77})
	}
	s.Keys = spare(s.Keys, "behind")
	return s
}

// withRoom: a state with all that stands in the room behind its lists, in memory of its own.
func withRoom(s api.State) api.State {
	s.Funds, s.Allocs, s.Rates, s.Keys = slices.Clone(s.Funds[:cap(s.Funds)]), slices.Clone(s.Allocs[:cap(s.Allocs)]), slices.Clone(s.Rates[:cap(s.Rates)]), slices.Clone(s.Keys[:cap(s.Keys)])
	s.Jobs = slices.Clone(s.Jobs[:cap(s.Jobs)])
	for i, j := range s.Jobs {
		s.Jobs[i].Draws = slices.Clone(j.Draws[:cap(j.Draws)])
	}
	return s
}

// scribble: all over a list, and the room behind it.
func scribble[E any](list []E, with E) {
	for i := range list[:cap(list)] {
		list[:cap(list)][i] = with
	}
}

// scribbleOver: all lists of a state.
func scribbleOver(s api.State) {
	for _, j := range s.Jobs[:cap(s.Jobs)] {
		scribble(j.Draws, api.Draw{Alloc: -66, Amount: -66})
	}
	scribble(s.Funds, api.Fund{Name: "#", Parent: -66, Limit: -66})
	scribble(s.Allocs, api.Alloc{Fund: -66, From: -66, Until: -66, Avail: -66, Liened: -66, Spent: -66})
	scribble(s.Rates, api.Rate{QoS: -66, From: -66, Price: -66})
	scribble(s.Jobs, api.Job{ID: -66, Fund: -66, Nodes: -66, Used: -66})
	scribble(s.Keys, "#")
}

// encodes: Encode answers what the words ask for, twice, in memory of its own, and changes nothing (R3 to R5).
func encodes(t *testing.T, s api.State) ([]byte, api.Errno) {
	t.Helper()
	s = roomy(s)
	given := withRoom(s)
	want, wantE := layOut(s).b, api.OK
	if tooMuch(s) {
		want, wantE = nil, api.ErrForm
	}
	for range 2 {
		b, e := snap.Encode(s)
		if e != wantE || !slices.Equal(b, want) {
			t.Fatalf("Encode(%#v) is %v, %d; it should be %v, %d", s, b, e, want, wantE)
		}
		scribble(b, '#')
	}
	if !reflect.DeepEqual(withRoom(s), given) {
		t.Fatalf("what was handed in was changed: %#v", s)
	}
	return want, wantE
}

// decodes: Decode answers what the words ask for, likewise; with OK, Encode answers those bytes, just so.
func decodes(t *testing.T, b []byte) api.Errno {
	t.Helper()
	b = spare(b, 77)
	given := slices.Clone(b[:cap(b)])
	want, wantE := stateOf(b)
	for range 2 {
		s, e := snap.Decode(b)
		if e != wantE || !sameState(s, want) {
			t.Fatalf("Decode(%v) is %#v, %d; it should be %#v, %d", b, s, e, want, wantE)
		}
		if again, againE := snap.Encode(s); e == api.OK && (againE != api.OK || !slices.Equal(again, b)) {
			t.Fatalf("Encode of Decode(%v) is %v, %d", b, again, againE)
		}
		scribbleOver(s)
	}
	if !slices.Equal(b[:cap(b)], given) {
		t.Fatal("what was handed in was changed", b)
	}
	return wantE
}

// both: a state that may be is encoded, and its bytes are decoded.
func both(t *testing.T, s api.State) []byte {
	t.Helper()
	b, e := encodes(t, s)
	if e != api.OK {
		t.Fatalf("%#v should have bytes", s)
	}
	if u, e := snap.Decode(b); e != api.OK || !sameState(s, u) {
		t.Fatalf("Decode of Encode(%#v) is %#v, %d", s, u, e)
	}
	decodes(t, b)
	return b
}

// none: a state that has too much of something has no bytes.
func none(t *testing.T, s api.State) {
	t.Helper()
	if b, e := snap.Encode(s); len(b) != 0 || e != api.ErrForm {
		t.Fatalf("Encode of a state with too much is %d bytes, %d", len(b), e)
	}
}

// nowhere: nor is it what the bytes tell that it would have.
func nowhere(t *testing.T, s api.State) {
	t.Helper()
	none(t, s)
	encodes(t, s)
	noState(t, layOut(s).b)
}

// noState: there is no state with these bytes, and nothing is answered beside that.
func noState(t *testing.T, b []byte) {
	t.Helper()
	if s, e := snap.Decode(b); e != api.ErrForm || !sameState(s, api.State{}) {
		t.Fatalf("Decode(%v) is %#v, %d; it should be ErrForm", b[:min(len(b), 100)], s, e)
	}
}

// P13.1, P13.2: the chapter's example.
func TestExample(t *testing.T) {
	b, e := snap.Encode(api.State{})
	if e != api.OK || !slices.Equal(b, make([]byte, 64)) {
		t.Error(b, e)
	}
	if s, e := snap.Decode(make([]byte, 64)); e != api.OK || !sameState(s, api.State{}) {
		t.Error(s, e)
	}
}

// P13.1, P13.2: byte by byte, in the order of the words.
func TestLayout(t *testing.T) {
	s := api.State{
		Seq: 1, World: -2, Next: 3,
		Funds:  []api.Fund{{Name: "a", Parent: -1, Limit: 4}, {Name: "bb", Parent: 5, Limit: 6}},
		Allocs: []api.Alloc{{Fund: 7, From: 8, Until: 9, Avail: 10, Liened: 11, Spent: 12}},
		Rates:  []api.Rate{{QoS: 13, From: 14, Price: 15}},
		Jobs: []api.Job{
			{ID: 16, Fund: 17, Nodes: 18, Wall: 19, QoS: 20, Prio: 21, Price: 22, State: 23, Start: 24, Mask: 25, Used: 26, Draws: []api.Draw{{Alloc: 27, Amount: 28}, {Alloc: 29, Amount: 258}}},
			{ID: 31},
		},
		Keys: []string{"key", ""},
	}
	var want []byte
	// Each of these is one byte, with seven ahead: 0, or 255 of a number below 0.
	numbers := func(list ...int) {
		for _, n := range list {
			for range 7 {
				want = append(want, byte(n>>8))
			}
			want = append(want, byte(n))
		}
	}
	numbers(1, -2, 3, 2)
	want = append(want, 0, 1, 'a')
	numbers(-1, 4)
	want = append(want, 0, 2, 'b', 'b')
	numbers(5, 6, 1, 7, 8, 9, 10, 11, 12, 1, 13, 14, 15, 2, 16, 17, 18, 19, 20, 21, 22, 23, 24, 25, 26, 2, 27, 28, 29)
	want = append(want, 0, 0, 0, 0, 0, 0, 1, 2)
	numbers(31, 0, 0, 0, 0, 0, 0, 0, 0, 0, 0, 0, 2)
	want = append(want, 0, 3, 'k', 'e', 'y', 0, 0)
	if b, e := snap.Encode(s); e != api.OK || !slices.Equal(b, want) {
		t.Errorf("%v, %d; it should be %v", b, e, want)
	}
	if u, e := snap.Decode(want); e != api.OK || !sameState(u, s) {
		t.Error(u, e)
	}
}

// P13.1, P13.2: nil and empty lists have the same bytes, and so has what stands in the room behind a list.
func TestEmptyLists(t *testing.T) {
	s := with(20, 20, 20, 20, 20, 20)
	s = api.State{Funds: s.Funds[:0], Allocs: s.Allocs[:0], Rates: s.Rates[:0], Jobs: s.Jobs[:0], Keys: s.Keys[:0]}
	if b, e := snap.Encode(s); e != api.OK || !slices.Equal(b, make([]byte, 64)) {
		t.Error(b, e)
	}
	both(t, s)
	both(t, edit(s, func(s *api.State) {
		s.Funds, s.Allocs, s.Rates, s.Jobs, s.Keys = s.Funds[:mostFunds], s.Allocs[:mostAllocs], s.Rates[:mostRates], s.Jobs[:mostJobs], s.Keys[:mostKeys]
		for i := range s.Jobs {
			s.Jobs[i].Draws = s.Jobs[i].Draws[:i]
		}
	}))
}

// P13.1, P13.2: each number at its ends, in each place; whether a state may be otherwise is nothing to the bytes.
func TestNumbers(t *testing.T) {
	s := small()
	for place, n := range numbersOf(&s) {
		was := *n
		for _, end := range ends {
			*n = end
			if b := both(t, s); len(b) != fewest+2*(2+6+16)+2*48+2*24+2*(96+32)+2*(2+6) {
				t.Error(place, end, len(b))
			}
		}
		*n = was
	}
	s = most()
	for shift := range ends {
		for i, n := range numbersOf(&s) {
			*n = ends[(i+shift)%len(ends)]
		}
		both(t, s)
	}
}

// P13.1, P13.2: texts of any bytes, of up to 16, in each place, also the same ones.
func TestTexts(t *testing.T) {
	s := most()
	for _, text := range textsOf(&s) {
		was := *text
		for size := range mostName + 1 {
			*text = strings.Repeat("x", size)
			both(t, s)
		}
		for _, *text = range names {
			both(t, s)
		}
		*text = was
	}
	for _, name := range names {
		for _, text := range textsOf(&s) {
			*text = name
		}
		both(t, s)
	}
}

// P13.1, P13.2: as many of each as there may be.
func TestHowMany(t *testing.T) {
	for n := range 16 + 1 {
		both(t, with(min(n, mostFunds), 0, 0, 0, 0, 0))
		both(t, with(0, n, 0, 0, 0, 0))
		both(t, with(0, 0, n, 0, 0, 0))
		both(t, with(0, 0, 0, n, 0, 0))
		both(t, with(0, 0, 0, 1, n, 0))
		both(t, with(0, 0, 0, 0, 0, min(n, mostKeys)))
		both(t, with(min(n, mostFunds), n, n, n, n, min(n, mostKeys)))
		both(t, with(mostFunds-n/2, 16-n, n, 16-n, n, n/2))
	}
	// Nothing of each, but so many.
	both(t, api.State{Funds: make([]api.Fund, mostFunds), Allocs: make([]api.Alloc, mostAllocs), Rates: make([]api.Rate, mostRates), Jobs: make([]api.Job, mostJobs), Keys: make([]string, mostKeys)})
	if b := both(t, most()); len(b) != whole {
		t.Error(len(b), whole)
	}
	// A job has its own draws, whichever others have.
	for i := range mostJobs {
		s := with(1, 1, 1, mostJobs, 3, 1)
		s.Jobs[i].Draws = with(0, 0, 0, 1, mostDraws, 0).Jobs[0].Draws
		both(t, s)
		s.Jobs[i].Draws = nil
		both(t, s)
	}
}

// P13.1, P13.2: a list that has too much, alone, and in a state that has something of all.
func TestTooMany(t *testing.T) {
	for _, n := range []int{9, 10, 16, 17, 18, 32, 256, 264, 272, 1000} {
		s := with(n, n, n, n, 0, n)
		deep := with(0, 0, 0, 1, n, 0)
		lists := []struct {
			most int
			put  func(*api.State)
		}{
			{mostFunds, func(u *api.State) { u.Funds = s.Funds }},
			{mostAllocs, func(u *api.State) { u.Allocs = s.Allocs }},
			{mostRates, func(u *api.State) { u.Rates = s.Rates }},
			{mostJobs, func(u *api.State) { u.Jobs = s.Jobs }},
			{mostDraws, func(u *api.State) { u.Jobs = append(u.Jobs[:len(u.Jobs):len(u.Jobs)], deep.Jobs[0]) }},
			{mostDraws, func(u *api.State) { u.Jobs = append([]api.Job{deep.Jobs[0]}, u.Jobs...) }},
			{mostKeys, func(u *api.State) { u.Keys = s.Keys }},
		}
		for _, list := range lists {
			for _, base := range []api.State{{}, small(), with(1, 1, 1, 15, 1, 1)} {
				if n > list.most {
					nowhere(t, edit(base, list.put))
				} else {
					both(t, edit(base, list.put))
				}
			}
		}
		if n > 16 {
			nowhere(t, s)
		}
	}
	nowhere(t, with(9, 17, 17, 17, 17, 9))
	nowhere(t, api.State{Jobs: make([]api.Job, 17)})
	nowhere(t, api.State{Keys: make([]string, 9)})
	nowhere(t, api.State{Jobs: []api.Job{{}, {}, {Draws: make([]api.Draw, 17)}, {}}})
}

// P13.1, P13.2: a text that is too long, in each place.
func TestLongTexts(t *testing.T) {
	for _, s := range []api.State{with(1, 0, 0, 0, 0, 0), with(0, 0, 0, 0, 0, 1), small(), most()} {
		for _, text := range textsOf(&s) {
			was := *text
			for _, *text = range longNames {
				nowhere(t, s)
			}
			for _, *text = range endlessNames {
				none(t, s)
			}
			*text = was
		}
		both(t, s)
	}
	nowhere(t, api.State{Funds: []api.Fund{{Name: "seventeen letters"}}})
	nowhere(t, api.State{Keys: []string{"", "seventeen letters"}})
	nowhere(t, api.State{Funds: []api.Fund{{Name: "sixteen letters!"}}, Keys: []string{"seventeen letters"}})
}

// P13.2: no bytes, too few, and too many.
func TestCutOff(t *testing.T) {
	noState(t, nil)
	noState(t, []byte{})
	states := []api.State{{}, small(), most(), with(1, 0, 0, 0, 0, 0), with(0, 1, 0, 0, 0, 0), with(0, 0, 1, 0, 0, 0), with(0, 0, 0, 1, 0, 0), with(0, 0, 0, 1, 1, 0), with(0, 0, 0, 0, 0, 1)}
	for _, s := range states {
		b := both(t, s)
		for size := range b {
			noState(t, b[:size])
		}
		// Without the first ones, or behind others, bytes may be another state's.
		for from := 1; from < min(len(b), 400); from++ {
			decodes(t, b[from:])
		}
		for _, more := range []string{"\x00", "a", "\xff", "\x00\x00", strings.Repeat("\x00", 8), strings.Repeat("\x00", 16), strings.Repeat("\x00", 64), string(b)} {
			noState(t, append(slices.Clone(b), more...))
			decodes(t, append([]byte(more), b...))
		}
		// What stands in the room behind them is none of the bytes.
		if u, e := snap.Decode(append(slices.Clone(b), 1, 2, 3)[:len(b)]); e != api.OK || !sameState(u, s) {
			t.Error(u, e)
		}
	}
	for _, size := range []int{1, 24, 56, 63, 65, 66, 72, 128, 1 << 20} {
		noState(t, make([]byte, size))
	}
}

// P13.2: how much there is of something, as no state tells it.
func TestCounts(t *testing.T) {
	wild := []int{-1, -2, -8, -16, math.MinInt, math.MinInt + 1, math.MaxInt, math.MaxInt - 1, 17, 18, 64, 255, 256, 257, 1 << 15, 1<<16 - 1, 1 << 16, 1<<32 + 1, 1 << 32, 1 << 59, 1 << 60, 1 << 61, 1 << 62, -1 << 32, -1<<32 + 1}
	for _, s := range []api.State{{}, small(), with(3, 3, 3, 3, 3, 3), most()} {
		l := layOut(s)
		for _, m := range l.marks {
			_, told := m.told(l.b)
			for _, n := range append(wild, m.most+1, m.most+2, 2*m.most) {
				// Two bytes have no room for more than their lowest ones.
				if m.size == 2 && uint16(n) <= mostName {
					continue
				}
				for _, room := range []int{0, 1, 8, 48, 96, 4096} {
					noState(t, append(m.put(l.b, n), make([]byte, room)...))
				}
			}
			// Fewer and more than there are, which may be another state's.
			for n := range 20 {
				if e := decodes(t, m.put(l.b, n)); e == api.OK && m.most == mostName && m.size == 2 && n > mostName {
					t.Error(m, n)
				}
			}
			if e := decodes(t, m.put(l.b, told)); e != api.OK {
				t.Error(m, told, e)
			}
		}
	}
}

// P13.2: each length that two bytes may tell, of a name and of a key.
func TestLengths(t *testing.T) {
	for _, s := range []api.State{{Funds: make([]api.Fund, 1)}, {Keys: make([]string, 1)}} {
		l := layOut(s)
		m := l.marks[slices.IndexFunc(l.marks, func(m mark) bool { return m.size == 2 })]
		for n := range 1 << 16 {
			u, e := snap.Decode(slices.Insert(m.put(l.b, n), m.at+2, make([]byte, min(n, 300))...))
			if n > mostName {
				if e != api.ErrForm || !sameState(u, api.State{}) {
					t.Error(n, u, e)
				}
				continue
			}
			*textsOf(&s)[0] = strings.Repeat("\x00", n)
			if e != api.OK || !sameState(u, s) {
				t.Error(n, u, e)
			}
		}
	}
}

// P13.2: every bit that is off makes another state, or none.
func TestBits(t *testing.T) {
	s := small()
	b := both(t, s)
	some := map[api.Errno]int{}
	for i := range b {
		for bit := range 8 {
			c := slices.Clone(b)
			c[i] ^= 1 << bit
			some[decodes(t, c)]++
			if u, e := snap.Decode(c); e == api.OK && sameState(s, u) {
				t.Error("the bytes of one state in two ways", i, bit)
			}
		}
	}
	if some[api.OK] < 2000 || some[api.ErrForm] < 500 {
		t.Error("too few of a kind", some)
	}
}

// R4: an answer is memory of its own, also behind what becomes of what was handed in, of other answers, and of its other lists.
func TestSharesNothing(t *testing.T) {
	s := roomy(most())
	want := layOut(s).b
	first, _ := snap.Encode(s)
	second, _ := snap.Encode(s)
	scribbleOver(s)
	scribble(first, '#')
	if !slices.Equal(second, want) {
		t.Error("shared bytes")
	}
	b := spare(want, 77)
	one, _ := snap.Decode(b)
	other, _ := snap.Decode(b)
	scribble(b, '#')
	scribbleOver(one)
	if !slices.Equal(layOut(other).b, want) || !sameState(other, most()) {
		t.Errorf("a shared state: %#v", other)
	}
	// What is added to one list is in no other one.
	for i := range other.Jobs {
		other.Jobs[i].Draws = append(other.Jobs[i].Draws[:3], api.Draw{Alloc: i, Amount: i})
		scribble(other.Jobs[i].Draws[3:], api.Draw{Alloc: i, Amount: i})
	}
	for i, j := range other.Jobs {
		if !slices.Equal(j.Draws[:3], most().Jobs[i].Draws[:3]) || j.Draws[3] != (api.Draw{Alloc: i, Amount: i}) {
			t.Error("shared draws", i, j)
		}
	}
}

// atRandom: a state of any kind, now and then with too much of something.
func atRandom(r *rand.Rand) api.State {
	many := func(most int) int {
		if r.Intn(100) == 0 {
			return most - 1 + r.Intn(5)
		}
		return r.Intn(1 + r.Intn(most+1))
	}
	s := with(many(mostFunds), many(mostAllocs), many(mostRates), many(mostJobs), 0, many(mostKeys))
	for i := range s.Jobs {
		s.Jobs[i].Draws = make([]api.Draw, many(mostDraws))
	}
	for _, n := range numbersOf(&s) {
		*n = r.Intn(40) - 5
		if r.Intn(3) == 0 {
			*n = ends[r.Intn(len(ends))]
		}
	}
	for _, text := range textsOf(&s) {
		b := make([]byte, many(mostName))
		r.Read(b)
		*text = string(b)
	}
	return s
}

// spoil: bytes that are nearly a state's.
func spoil(r *rand.Rand, l *laid) []byte {
	b := slices.Clone(l.b)
	at := r.Intn(len(b))
	m := l.marks[r.Intn(len(l.marks))]
	switch r.Intn(5) {
	case 0:
		return slices.Insert(b, at, byte(r.Intn(256)))
	case 1:
		return slices.Delete(b, at, at+1)
	case 2:
		return slices.Delete(b, at, min(len(b), at+8))
	case 3:
		return m.put(b, r.Intn(20))
	}
	b[at] ^= 1 << r.Intn(8)
	return b
}

// P13.1, P13.2: states of any kind, and bytes that are nearly theirs.
func TestAtRandom(t *testing.T) {
	r := rand.New(rand.NewSource(13))
	encoded, decoded := map[api.Errno]int{}, map[api.Errno]int{}
	for range 8000 {
		s := atRandom(r)
		_, e := encodes(t, s)
		encoded[e]++
		if e != api.OK {
			noState(t, layOut(s).b)
			continue
		}
		both(t, s)
		decoded[decodes(t, spoil(r, layOut(s)))]++
	}
	if min(encoded[api.OK], encoded[api.ErrForm], decoded[api.OK], decoded[api.ErrForm]) < 500 {
		t.Error("too few of a kind", encoded, decoded)
	}
}

// P13.1, P13.2: held against the words.
func FuzzSnap(f *testing.F) {
	f.Add(make([]byte, 64))
	f.Add(layOut(small()).b)
	f.Add(layOut(most()).b)
	f.Add(layOut(with(9, 1, 1, 1, 1, 1)).b)
	f.Add(layOut(with(1, 1, 1, 1, 17, 1)).b)
	f.Add(layOut(with(8, 2, 2, 3, 0, 9)).b)
	f.Add([]byte("any bytes, which are no state's"))
	f.Fuzz(func(t *testing.T, b []byte) {
		decodes(t, b)
		// The same bytes as what a state has.
		how := append(slices.Clone(b), make([]byte, 6)...)
		s := with(int(how[0]%10), int(how[1]%18), int(how[2]%18), int(how[3]%18), int(how[4]%18), int(how[5]%10))
		for i, n := range numbersOf(&s) {
			*n = *n*(i%5-2) + ends[int(how[i%len(how)])%len(ends)]
		}
		for i, text := range textsOf(&s) {
			from := i % len(how)
			*text = string(how[from:min(len(how), from+int(how[from]%18))])
		}
		if c, e := encodes(t, s); e == api.OK {
			both(t, s)
			decodes(t, append(c, b...))
		}
	})
}
