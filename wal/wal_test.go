package wal_test

import (
	"bytes"
	"math"
	"slices"
	"strconv"
	"testing"

	"greatseal/api"
	"greatseal/hash"
	"greatseal/wal"
)

// content is so many bytes, of which several are unlike.
func content(size int) []byte {
	b := make([]byte, size)
	for k := range b {
		b[k] = byte(k*7 + size)
	}
	return b
}

// frame is that of bytes, worked out apart from the program, but for the hash.
func frame(b []byte) []byte {
	n := len(b)
	return slices.Concat([]byte{byte(n >> 24), byte(n >> 16), byte(n >> 8), byte(n)}, b, hash.Bytes(hash.Sum(b)))
}

func framesOf(l ...[]byte) []byte {
	var b []byte
	for _, x := range l {
		b = append(b, frame(x)...)
	}
	return b
}

func store(safe, open []byte) api.Store { return api.Store{Safe: safe, Open: open} }

// parted are all stores of bytes: each as many of them safe as may be; of many bytes some.
func parted(b []byte) []api.Store {
	var l []api.Store
	step := max(1, len(b)/150)
	for at := 0; at < len(b); at += step {
		l = append(l, store(bytes.Clone(b[:at]), bytes.Clone(b[at:])))
	}
	return append(l, store(bytes.Clone(b), nil))
}

func same(a, b api.Store) bool { return bytes.Equal(a.Safe, b.Safe) && bytes.Equal(a.Open, b.Open) }

func all(s api.Store) []byte { return slices.Concat(s.Safe, s.Open) }

func tooGreat() []api.Store {
	return []api.Store{store(make([]byte, 65537), nil), store(nil, make([]byte, 65537)), store(make([]byte, 65536), make([]byte, 1)), store(make([]byte, 1), make([]byte, 65536)), store(make([]byte, 40000), make([]byte, 40000)), store(framesOf(slices.Repeat([][]byte{content(4096)}, 16)...), nil)}
}

func shown(b []byte) string {
	if len(b) > 60 {
		return strconv.Itoa(len(b)) + " bytes"
	}
	return strconv.Quote(string(b))
}

func show(s api.Store) string { return "{" + shown(s.Safe) + ", " + shown(s.Open) + "}" }

func checked(t *testing.T, want api.Errno, s api.Store) {
	t.Helper()
	if e := wal.Check(s); e != want {
		t.Errorf("Check(%s) is %d, not %d", show(s), e, want)
	}
}

func read(t *testing.T, what string, s api.Store, wantGood int, want ...[]byte) {
	t.Helper()
	if l, good := wal.Read(s); !slices.EqualFunc(l, want, bytes.Equal) || good != wantGood {
		t.Errorf("%s: Read(%s) is %d frames, %d, not %d, %d", what, show(s), len(l), good, len(want), wantGood)
	}
}

func told(t *testing.T, what string, got api.Store, e api.Errno, want api.Store, wantE api.Errno) {
	t.Helper()
	if !same(got, want) || e != wantE {
		t.Errorf("%s: told %s, %d, not %s, %d", what, show(got), e, show(want), wantE)
	}
}

func appended(t *testing.T, what string, s api.Store, b []byte, want api.Store, wantE api.Errno) {
	t.Helper()
	x, e := wal.Append(s, b)
	told(t, what+": Append to "+show(s)+" of "+shown(b), x, e, want, wantE)
}

func synced(t *testing.T, s, want api.Store, wantE api.Errno) {
	t.Helper()
	x, e := wal.Sync(s)
	told(t, "Sync of "+show(s), x, e, want, wantE)
}

func crashed(t *testing.T, s api.Store, keep int, want api.Store, wantE api.Errno) {
	t.Helper()
	x, e := wal.Crash(s, keep)
	told(t, "Crash of "+show(s)+", "+strconv.Itoa(keep), x, e, want, wantE)
}

func fixed(t *testing.T, what string, s, want api.Store, wantLost int) {
	t.Helper()
	if x, lost := wal.Fix(s); !same(x, want) || lost != wantLost {
		t.Errorf("%s: Fix(%s) is %s, %d, not %s, %d", what, show(s), show(x), lost, show(want), wantLost)
	}
}

// torn are bytes that begin with whole frames, and go on with what is none.
type tornBytes struct {
	what  string
	whole [][]byte
	rest  []byte
}

func torn() []tornBytes {
	var l []tornBytes
	add := func(what string, rest []byte) {
		for _, whole := range [][][]byte{nil, {content(3)}, {content(0), content(7), content(1)}} {
			l = append(l, tornBytes{what, whole, rest})
		}
	}
	for _, size := range []int{0, 1, 5} {
		f := frame(content(size))
		for many := 1; many < len(f); many++ {
			add("bytes are missing", f[:many])
		}
		for at := 4; at < len(f); at++ {
			for _, x := range []byte{1, 128} {
				wrong := bytes.Clone(f)
				wrong[at] ^= x
				add("another byte", wrong)
				add("another byte, with a frame behind it", append(wrong, f...))
			}
		}
		for _, number := range []int{size + 1, size + 2, size - 1, 256 + size, 1<<24 + size, 1<<16 + size, 1<<31 + size, 4096, 4097, math.MaxUint32} {
			wrong := bytes.Clone(f)
			for k := range 4 {
				wrong[k] = byte(number >> (24 - 8*k))
			}
			add("another number", wrong)
		}
	}
	long := frame(content(4096))
	for _, many := range []int{4, 19, 20, 4096, 4099, 4100, 4115} {
		add("bytes of a long one are missing", long[:many])
	}
	add("a number above 4096", frame(content(4097)))
	add("a number above 4096, with a frame behind it", framesOf(content(4097), content(1)))
	add("a number above 4096", frame(content(8192)))
	add("zeros", make([]byte, 20))
	add("other bytes", bytes.Repeat([]byte{255}, 50))
	return l
}

// P20.1

func TestCheck(t *testing.T) {
	for _, s := range []api.Store{{}, store([]byte{}, []byte{}), store(nil, []byte{1}), store(make([]byte, 65536), nil), store(nil, make([]byte, 65536)), store(make([]byte, 65535), make([]byte, 1)), store(make([]byte, 1), make([]byte, 65535)), store(make([]byte, 32768), make([]byte, 32768))} {
		checked(t, api.OK, s)
	}
	for _, s := range tooGreat() {
		checked(t, api.ErrBound, s)
	}
}

func TestRead(t *testing.T) {
	read(t, "nothing", api.Store{}, 0)
	for _, l := range [][][]byte{{nil}, {content(1)}, {content(2), nil, content(300)}, {nil, nil, nil}, {content(4096)}, {content(4095), content(4096), content(1)}, {frame(content(2)), frame(nil)}} {
		b := framesOf(l...)
		for _, s := range parted(b) {
			read(t, "whole", s, len(b), l...)
		}
	}
}

func TestReadOfWhatIsTorn(t *testing.T) {
	for _, x := range torn() {
		ahead := framesOf(x.whole...)
		for _, at := range []int{0, len(ahead) / 2, len(ahead), len(ahead) + len(x.rest)/2, len(ahead) + len(x.rest)} {
			b := append(bytes.Clone(ahead), x.rest...)
			s := store(b[:at], b[at:])
			read(t, x.what, s, len(ahead), x.whole...)
			safe := min(at, len(ahead))
			fixed(t, x.what, s, store(ahead[:safe], ahead[safe:]), len(x.rest))
		}
	}
}

func TestReadOfGreatStores(t *testing.T) {
	l := slices.Repeat([][]byte{content(4096)}, 20)
	b := framesOf(l...)
	for _, at := range []int{0, 1, 65536, len(b)} {
		s := store(b[:at], b[at:])
		checked(t, api.ErrBound, s)
		read(t, "too great", s, len(b), l...)
		fixed(t, "too great", s, s, 0)
		longer := store(s.Safe, append(bytes.Clone(s.Open), 0, 0))
		read(t, "too great", longer, len(b), l...)
		fixed(t, "too great", longer, s, 2)
	}
	read(t, "too great", tooGreat()[0], 0)
	fixed(t, "too great", tooGreat()[3], api.Store{}, 65537)
}

// P20.2

func TestAppend(t *testing.T) {
	for _, safe := range [][]byte{nil, framesOf(content(2)), framesOf(nil, content(9))} {
		for _, open := range [][]byte{nil, framesOf(content(1)), framesOf(content(300), nil)} {
			for _, size := range []int{0, 1, 2, 127, 128, 255, 256, 257, 4095, 4096} {
				appended(t, "whole", store(safe, open), content(size), store(safe, slices.Concat(open, frame(content(size)))), api.OK)
			}
			for _, size := range []int{4097, 4098, 5000, 65536, 100000} {
				appended(t, "too many bytes", store(safe, open), content(size), api.Store{}, api.ErrArg)
			}
		}
	}
	// A frame that begins in what is safe, and ends in what is not.
	b := framesOf(content(5), content(6))
	for _, s := range parted(b) {
		appended(t, "whole, wherever it is parted", s, content(3), store(s.Safe, slices.Concat(s.Open, frame(content(3)))), api.OK)
	}
}

func TestAppendToWhatIsTorn(t *testing.T) {
	for _, x := range torn() {
		b := append(framesOf(x.whole...), x.rest...)
		for _, at := range []int{0, len(b) / 2, len(b)} {
			appended(t, x.what, store(b[:at], b[at:]), content(3), api.Store{}, api.ErrTorn)
			appended(t, x.what+", nothing", store(b[:at], b[at:]), nil, api.Store{}, api.ErrTorn)
			appended(t, x.what+", too many bytes", store(b[:at], b[at:]), content(4097), api.Store{}, api.ErrArg)
		}
	}
	for _, s := range tooGreat() {
		for _, size := range []int{0, 3, 4096, 4097} {
			appended(t, "too great", s, content(size), api.Store{}, api.ErrBound)
		}
	}
}

func TestAppendUpToTheBound(t *testing.T) {
	// What is there leaves room for 3776 bytes, and what a frame has beside them.
	there := framesOf(slices.Repeat([][]byte{content(4096)}, 15)...)
	for _, at := range []int{0, 5000, len(there)} {
		s := store(there[:at], there[at:])
		for _, size := range []int{0, 3775, 3776} {
			appended(t, "room", s, content(size), store(s.Safe, slices.Concat(s.Open, frame(content(size)))), api.OK)
		}
		for _, size := range []int{3777, 3778, 4096} {
			appended(t, "no room", s, content(size), api.Store{}, api.ErrBound)
		}
		appended(t, "no room, and too many bytes", s, content(4097), api.Store{}, api.ErrArg)
	}
	full := store(framesOf(append(slices.Repeat([][]byte{content(4096)}, 15), content(3776))...), nil)
	checked(t, api.OK, full)
	appended(t, "full", full, nil, api.Store{}, api.ErrBound)
}

func TestSync(t *testing.T) {
	for _, b := range [][]byte{nil, {1}, framesOf(content(2), content(3)), append(framesOf(content(2)), 0, 7), make([]byte, 65536)} {
		for _, s := range parted(b) {
			synced(t, s, store(b, nil), api.OK)
		}
	}
	for _, s := range tooGreat() {
		synced(t, s, api.Store{}, api.ErrBound)
	}
}

// P20.3

func TestCrash(t *testing.T) {
	for _, b := range [][]byte{nil, {1}, framesOf(content(2), content(3)), append(framesOf(content(2)), 0, 7)} {
		for _, s := range parted(b) {
			for keep := range len(s.Open) + 1 {
				crashed(t, s, keep, store(slices.Concat(s.Safe, s.Open[:keep]), nil), api.OK)
			}
			for _, keep := range []int{math.MinInt, -2, -1, len(s.Open) + 1, len(s.Open) + 2, len(b) + 1, math.MaxInt} {
				crashed(t, s, keep, api.Store{}, api.ErrArg)
			}
		}
	}
	great := store(make([]byte, 65530), make([]byte, 6))
	crashed(t, great, 6, store(make([]byte, 65536), nil), api.OK)
	crashed(t, great, 7, api.Store{}, api.ErrArg)
	for _, s := range tooGreat() {
		for _, keep := range []int{-1, 0, len(s.Open), len(s.Open) + 1} {
			crashed(t, s, keep, api.Store{}, api.ErrBound)
		}
	}
}

func TestFix(t *testing.T) {
	whole := framesOf(content(2), nil, content(30))
	for _, s := range append(parted(whole), api.Store{}) {
		fixed(t, "whole", s, s, 0)
	}
	// All of what is open, and some of what is safe, is taken off.
	for _, x := range []struct{ safe, open, left int }{{22, 0, 22}, {23, 0, 22}, {41, 0, 22}, {42, 0, 42}, {23, 19, 42}, {22, 20, 42}, {22, 19, 22}, {22, 0, 22}, {21, 0, 0}, {0, 21, 0}, {21, 21, 42}, {45, 20, 42}, {50, 41, 42}, {50, 42, 92}, {0, 92, 92}, {0, 91, 42}, {91, 0, 42}, {91, 1, 92}, {1, 0, 0}} {
		s := store(whole[:x.safe], whole[x.safe:x.safe+x.open])
		safe := min(x.left, x.safe)
		fixed(t, "cut off", s, store(whole[:safe], whole[safe:x.left]), x.safe+x.open-x.left)
	}
}

// P20.4

func TestWhatIsSafeIsReadAfterEachCrash(t *testing.T) {
	contents := [][]byte{content(2), nil, content(40), content(7), content(1)}
	for safe := range len(contents) + 1 {
		var s api.Store
		e := api.OK
		for at, b := range contents {
			if at == safe {
				s, e = wal.Sync(s)
			}
			if e == api.OK {
				s, e = wal.Append(s, b)
			}
		}
		if safe == len(contents) {
			s, e = wal.Sync(s)
		}
		if e != api.OK {
			t.Fatalf("Append and Sync tell %d", e)
		}
		for keep := range len(s.Open) + 1 {
			x, e := wal.Crash(s, keep)
			if e != api.OK || len(x.Open) != 0 {
				t.Fatalf("Crash tells %d", e)
			}
			there := safe
			for there < len(contents) && len(framesOf(contents[:there+1]...)) <= len(x.Safe) {
				there++
			}
			size := len(framesOf(contents[:there]...))
			read(t, "behind a crash", x, size, contents[:there]...)
			fixed(t, "behind a crash", x, store(x.Safe[:size], nil), len(x.Safe)-size)
			x, _ = wal.Fix(x)
			appended(t, "behind Fix", x, content(9), store(x.Safe, frame(content(9))), api.OK)
		}
	}
}

// R2, R6

func TestNothingIsChangedOrShared(t *testing.T) {
	roomy := func() api.Store {
		b := framesOf(content(2), content(3))
		return store(append(bytes.Clone(b[:22]), 1, 2, 3)[:22], append(bytes.Clone(b[22:]), 4, 5, 6)[:23])
	}
	was := roomy()
	for k, call := range []func(s api.Store) (api.Store, [][]byte){
		func(s api.Store) (api.Store, [][]byte) { x, _ := wal.Append(s, content(1)); return x, nil },
		func(s api.Store) (api.Store, [][]byte) { x, _ := wal.Sync(s); return x, nil },
		func(s api.Store) (api.Store, [][]byte) { x, _ := wal.Sync(store(s.Safe, nil)); return x, nil },
		func(s api.Store) (api.Store, [][]byte) { x, _ := wal.Crash(s, 23); return x, nil },
		func(s api.Store) (api.Store, [][]byte) { x, _ := wal.Crash(s, 0); return x, nil },
		func(s api.Store) (api.Store, [][]byte) { x, _ := wal.Fix(s); return x, nil },
		func(s api.Store) (api.Store, [][]byte) { x, _ := wal.Fix(store(s.Open[:22], s.Safe)); return x, nil },
		func(s api.Store) (api.Store, [][]byte) { l, _ := wal.Read(s); return api.Store{}, l },
	} {
		s := roomy()
		x, l := call(s)
		wasX, wasL := store(bytes.Clone(x.Safe), bytes.Clone(x.Open)), slices.Clone(l)
		for at := range wasL {
			wasL[at] = bytes.Clone(l[at])
		}
		if !same(s, was) || !bytes.Equal(s.Safe[:25], was.Safe[:25]) || !bytes.Equal(s.Open[:26], was.Open[:26]) {
			t.Errorf("call %d changes what is handed in", k)
		}
		clear(s.Safe[:cap(s.Safe)])
		clear(s.Open[:cap(s.Open)])
		if !same(x, wasX) || !slices.EqualFunc(l, wasL, bytes.Equal) {
			t.Errorf("what call %d has told changes with what was handed in", k)
		}
		s = roomy()
		x, l = call(s)
		clear(x.Safe[:cap(x.Safe)])
		if !bytes.Equal(x.Open, wasX.Open) {
			t.Errorf("both lists that call %d has told are one", k)
		}
		clear(x.Open[:cap(x.Open)])
		for at := range l {
			clear(l[at][:cap(l[at])])
			if at+1 < len(l) && !bytes.Equal(l[at+1], wasL[at+1]) {
				t.Errorf("what call %d has told is shared", k)
			}
		}
		if !same(s, was) {
			t.Errorf("what was handed in changes with what call %d has told", k)
		}
	}
	b := content(5)
	x, _ := wal.Append(api.Store{}, b)
	if !bytes.Equal(b, content(5)) {
		t.Error("Append changes the bytes")
	}
	clear(b)
	read(t, "behind other bytes", x, 25, content(5))
}

// The chapter's example

func TestExample(t *testing.T) {
	s, e := wal.Append(api.Store{}, []byte{1, 2})
	if len(s.Safe) != 0 || len(s.Open) != 22 || e != api.OK {
		t.Errorf("Append tells %s, %d", show(s), e)
	}
	s, _ = wal.Sync(s)
	s, e = wal.Append(s, nil)
	if len(s.Safe) != 22 || len(s.Open) != 20 || e != api.OK {
		t.Errorf("Append tells %s, %d", show(s), e)
	}
	s, e = wal.Crash(s, 19)
	if len(s.Safe) != 41 || len(s.Open) != 0 || e != api.OK {
		t.Errorf("Crash tells %s, %d", show(s), e)
	}
	read(t, "example", s, 22, []byte{1, 2})
	fixed(t, "example", s, store(s.Safe[:22], nil), 19)
}
