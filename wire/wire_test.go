package wire_test

import (
	"bytes"
	"math"
	"math/rand/v2"
	"slices"
	"testing"

	"empennage/api"
	"empennage/wire"
)

// sizes are how many bytes a number may have.
func sizes() []int { return []int{1, 2, 4} }

// wrongSizes are how many it may not have.
func wrongSizes() []int {
	return []int{0, 3, 5, 6, 7, 8, 16, 257, 1 << 32, 1<<32 + 1, math.MaxInt - 1, math.MaxInt, -1, -2, -4, math.MinInt, math.MinInt + 1}
}

// greatest is the last number of n bytes.
func greatest(n int) int {
	return map[int]int{1: 255, 2: 65535, 4: 4294967295}[n]
}

// numbers are some of n bytes, both ends among them.
func numbers(n int) []int {
	l := []int{0, 1, 2, 127, 128, 254, 255}
	for _, v := range []int{256, 257, 258, 511, 32768, 65280, 65534, 65535, 65536, 66051, 1 << 24, 16909060, 1<<31 - 1, 1 << 31, 4278190080, 4294967294, 4294967295} {
		if v <= greatest(n) {
			l = append(l, v)
		}
	}
	return l
}

// outside are no numbers of n bytes.
func outside(n int) []int {
	g := greatest(n)
	return []int{g + 1, g + 2, 2 * (g + 1), 1 << 32, 1 << 62, math.MaxInt - 1, math.MaxInt, -1, -2, -g, -g - 1, math.MinInt + 1, math.MinInt}
}

// bytesOf are a number's, made by dividing.
func bytesOf(n, v int) []byte {
	var l []byte
	for range n {
		l = append([]byte{byte(v % 256)}, l...)
		v /= 256
	}
	return l
}

// ahead are bytes onto which is put.
func ahead() [][]byte {
	return [][]byte{nil, {}, {0}, {120}, {1, 2, 3}, bytes.Repeat([]byte{200}, 300)}
}

// roomy is a copy with room behind, which is full of 77.
func roomy(b []byte) []byte {
	all := append(slices.Clone(b), bytes.Repeat([]byte{77}, 16)...)
	return all[:len(b)]
}

// untouched fails unless roomy's bytes, and those behind, are as they were.
func untouched(t *testing.T, what string, b, was []byte) {
	t.Helper()
	if !bytes.Equal(b, was) {
		t.Errorf("%s: what was handed in is %v, not %v", what, b, was)
	}
	for _, x := range b[len(b) : len(b)+16] {
		if x != 77 {
			t.Errorf("%s: the room behind is %v", what, b[len(b):len(b)+16])
			return
		}
	}
}

// spoil turns each byte, and those in the room behind.
func spoil(b []byte) {
	b = b[:cap(b)]
	for i := range b {
		b[i] ^= 255
	}
}

// P3.1 is asked by the tests from here on, P3.2 by the last ones.

func TestPutWrittenOut(t *testing.T) {
	for _, x := range []struct {
		n, v int
		want []byte
	}{
		{2, 258, []byte{1, 2}},
		{1, 0, []byte{0}},
		{1, 7, []byte{7}},
		{1, 255, []byte{255}},
		{2, 0, []byte{0, 0}},
		{2, 255, []byte{0, 255}},
		{2, 256, []byte{1, 0}},
		{2, 65535, []byte{255, 255}},
		{4, 0, []byte{0, 0, 0, 0}},
		{4, 5, []byte{0, 0, 0, 5}},
		{4, 258, []byte{0, 0, 1, 2}},
		{4, 65536, []byte{0, 1, 0, 0}},
		{4, 16909060, []byte{1, 2, 3, 4}},
		{4, 2147483648, []byte{128, 0, 0, 0}},
		{4, 4294967295, []byte{255, 255, 255, 255}},
	} {
		if got, e := wire.Put(nil, x.n, x.v); !bytes.Equal(got, x.want) || e != api.NoError {
			t.Errorf("Put(nil, %d, %d) = %v, %v", x.n, x.v, got, e)
		}
		want := append([]byte{9, 8}, x.want...)
		if got, e := wire.Put([]byte{9, 8}, x.n, x.v); !bytes.Equal(got, want) || e != api.NoError {
			t.Errorf("Put([9 8], %d, %d) = %v, %v", x.n, x.v, got, e)
		}
	}
}

func TestPutOntoAnyBytes(t *testing.T) {
	for _, b := range ahead() {
		for _, n := range sizes() {
			for _, v := range numbers(n) {
				want := append(slices.Clone(b), bytesOf(n, v)...)
				if got, e := wire.Put(b, n, v); !bytes.Equal(got, want) || e != api.NoError {
					t.Errorf("Put(%v, %d, %d) = %v, %v", b, n, v, got, e)
				}
			}
		}
	}
}

func TestPutOfNumbersThatMayNotBe(t *testing.T) {
	for _, b := range ahead() {
		for _, n := range sizes() {
			for _, v := range outside(n) {
				if got, e := wire.Put(b, n, v); !bytes.Equal(got, b) || e != api.ErrRange {
					t.Errorf("Put(%v, %d, %d) = %v, %v", b, n, v, got, e)
				}
			}
		}
	}
}

// Of a size that may not be, ErrForm is told whether the number may be or not.
func TestPutOfSizesThatMayNotBe(t *testing.T) {
	for _, b := range ahead() {
		for _, n := range wrongSizes() {
			for _, v := range append(outside(4), 0, 1, 255, 256, 65535, 65536, 4294967295) {
				if got, e := wire.Put(b, n, v); !bytes.Equal(got, b) || e != api.ErrForm {
					t.Errorf("Put(%v, %d, %d) = %v, %v", b, n, v, got, e)
				}
			}
		}
	}
}

func TestPutLeavesWhatIsHandedIn(t *testing.T) {
	for _, x := range [][2]int{{1, 5}, {2, 258}, {4, 16909060}, {1, 256}, {4, -1}, {3, 1}, {0, -1}} {
		was := []byte{1, 2, 3}
		b := roomy(was)
		got, _ := wire.Put(b, x[0], x[1])
		untouched(t, "behind Put", b, was)
		told := slices.Clone(got)
		another, _ := wire.Put(b, 1, 99)
		if !bytes.Equal(got, told) {
			t.Errorf("Put of %v: another Put turned %v to %v", x, told, got)
		}
		spoil(got)
		untouched(t, "behind an answer that was turned", b, was)
		if !bytes.Equal(another, []byte{1, 2, 3, 99}) {
			t.Errorf("Put of %v: an answer turned another one to %v", x, another)
		}
		got, _ = wire.Put(b, x[0], x[1])
		spoil(b)
		if !bytes.Equal(got, told) {
			t.Errorf("Put of %v: the answer turned with what was handed in, to %v", x, got)
		}
	}
}

func TestPutOntoOneAnswerTwice(t *testing.T) {
	b, _ := wire.Put(nil, 4, 1)
	for range 20 {
		one, _ := wire.Put(b, 1, 1)
		two, _ := wire.Put(b, 1, 2)
		if one[len(b)] != 1 || two[len(b)] != 2 {
			t.Fatalf("onto %v: %v and %v", b, one, two)
		}
		b = one
	}
}

func TestSum(t *testing.T) {
	for _, x := range []struct {
		b    []byte
		want int
	}{
		{nil, 0},
		{[]byte{}, 0},
		{[]byte{0}, 0},
		{[]byte{0, 0, 0}, 0},
		{[]byte{255}, 255},
		{[]byte{1, 2, 3}, 6},
		{[]byte{3, 2, 1}, 6},
		{[]byte{255, 2}, 257},
		{bytes.Repeat([]byte{255}, 257), 65535},
		{append(bytes.Repeat([]byte{255}, 257), 1), 0},
		{append(bytes.Repeat([]byte{255}, 257), 2), 1},
		{bytes.Repeat([]byte{255}, 258), 254},
		{bytes.Repeat([]byte{1}, 65535), 65535},
		{bytes.Repeat([]byte{1}, 65536), 0},
		{bytes.Repeat([]byte{1}, 65537), 1},
		{bytes.Repeat([]byte{128}, 1024), 0},
		{bytes.Repeat([]byte{255}, 1000000), 255000000 % 65536},
	} {
		was := slices.Clone(x.b)
		if got := wire.Sum(x.b); got != x.want {
			t.Errorf("Sum of %d bytes = %d, not %d", len(x.b), got, x.want)
		}
		if !bytes.Equal(x.b, was) {
			t.Errorf("Sum turned %d bytes", len(x.b))
		}
	}
}

func TestSeal(t *testing.T) {
	for _, x := range []struct{ b, want []byte }{
		{nil, []byte{0, 0}},
		{[]byte{}, []byte{0, 0}},
		{[]byte{0}, []byte{0, 0, 0}},
		{[]byte{5}, []byte{5, 0, 5}},
		{[]byte{255, 2}, []byte{255, 2, 1, 1}},
		{[]byte{1, 2, 3}, []byte{1, 2, 3, 0, 6}},
		{[]byte{5, 0, 5}, []byte{5, 0, 5, 0, 10}},
		{bytes.Repeat([]byte{255}, 257), append(bytes.Repeat([]byte{255}, 257), 255, 255)},
		{bytes.Repeat([]byte{255}, 258), append(bytes.Repeat([]byte{255}, 258), 0, 254)},
	} {
		if got := wire.Seal(x.b); !bytes.Equal(got, x.want) {
			t.Errorf("Seal(%v) = %v, not %v", x.b, got, x.want)
		}
	}
}

func TestSealLeavesWhatIsHandedIn(t *testing.T) {
	for _, was := range [][]byte{{}, {1, 2, 3}} {
		b := roomy(was)
		want := append(slices.Clone(was), bytesOf(2, 2*len(was))...)
		got, another := wire.Seal(b), wire.Seal(b)
		untouched(t, "behind Seal", b, was)
		spoil(got)
		untouched(t, "behind an answer that was turned", b, was)
		spoil(b)
		if !bytes.Equal(another, want) {
			t.Errorf("Seal of %v: the answer turned to %v", was, another)
		}
	}
}

func TestOpen(t *testing.T) {
	full := bytes.Repeat([]byte{255}, 258)
	for _, x := range []struct {
		b, want []byte
		e       api.Errno
	}{
		{nil, nil, api.ErrShort},
		{[]byte{}, nil, api.ErrShort},
		{[]byte{0}, nil, api.ErrShort},
		{[]byte{9}, nil, api.ErrShort},
		{[]byte{0, 0}, nil, api.NoError},
		{[]byte{0, 1}, nil, api.ErrForm},
		{[]byte{1, 0}, nil, api.ErrForm},
		{[]byte{255, 255}, nil, api.ErrForm},
		{[]byte{0, 0, 0}, []byte{0}, api.NoError},
		{[]byte{5, 0, 5}, []byte{5}, api.NoError},
		{[]byte{5, 0, 4}, nil, api.ErrForm},
		{[]byte{5, 5, 0}, nil, api.ErrForm},
		{[]byte{5, 1, 5}, nil, api.ErrForm},
		{[]byte{255, 2, 1, 1}, []byte{255, 2}, api.NoError},
		{[]byte{255, 2, 0, 1}, nil, api.ErrForm},
		{[]byte{0, 5, 0, 5, 0, 10}, []byte{0, 5, 0, 5}, api.NoError},
		{append(slices.Clone(full), 0, 254), full, api.NoError},
		{append(slices.Clone(full), 1, 254), nil, api.ErrForm},
		{append(slices.Clone(full), 255, 254), nil, api.ErrForm},
	} {
		if got, e := wire.Open(x.b); !bytes.Equal(got, x.want) || e != x.e {
			t.Errorf("Open(%v) = %v, %v", x.b, got, e)
		}
	}
}

func TestOpenLeavesWhatIsHandedIn(t *testing.T) {
	for _, was := range [][]byte{{}, {3}, {0, 0}, {3, 1}, {1, 2, 3, 0, 6}, {1, 2, 3, 0, 7}} {
		b := roomy(was)
		got, _ := wire.Open(b)
		another, _ := wire.Open(b)
		untouched(t, "behind Open", b, was)
		told := slices.Clone(another)
		spoil(got)
		untouched(t, "behind an answer that was turned", b, was)
		spoil(b)
		if !bytes.Equal(another, told) {
			t.Errorf("Open of %v: the answer turned to %v", was, another)
		}
	}
}

// stands fails unless the reader is at that point; it is asked twice, as asking takes nothing.
func stands(t *testing.T, what string, r *wire.Reader, err api.Errno, left int, end api.Errno) {
	t.Helper()
	for range 2 {
		if r.Err() != err || r.Left() != left || r.End() != end {
			t.Errorf("%s: %v, %d left, at its end %v; not %v, %d, %v", what, r.Err(), r.Left(), r.End(), err, left, end)
		}
	}
}

// next fails unless the next number of n bytes is v.
func next(t *testing.T, r *wire.Reader, n, v int) {
	t.Helper()
	if got := r.Next(n); got != v {
		t.Errorf("Next(%d) = %d, not %d", n, got, v)
	}
}

func TestReadOfNone(t *testing.T) {
	for _, b := range [][]byte{nil, {}} {
		stands(t, "of none", wire.Read(b), api.NoError, 0, api.NoError)
		for _, n := range sizes() {
			r := wire.Read(b)
			next(t, r, n, 0)
			stands(t, "of none", r, api.ErrShort, 0, api.ErrShort)
		}
	}
}

func TestNextOfEachSize(t *testing.T) {
	r := wire.Read([]byte{7, 1, 2, 1, 2, 3, 4, 255, 255, 255, 255, 255, 255, 255})
	stands(t, "at first", r, api.NoError, 14, api.ErrForm)
	for _, x := range [][3]int{{1, 7, 13}, {2, 258, 11}, {4, 16909060, 7}, {4, 4294967295, 3}, {2, 65535, 1}} {
		next(t, r, x[0], x[1])
		stands(t, "behind a number", r, api.NoError, x[2], api.ErrForm)
	}
	next(t, r, 1, 255)
	stands(t, "at the end", r, api.NoError, 0, api.NoError)
	next(t, r, 1, 0)
	stands(t, "past the end", r, api.ErrShort, 0, api.ErrShort)
}

func TestNextOfTooFewBytes(t *testing.T) {
	for _, n := range sizes() {
		for have := range n {
			r := wire.Read(bytes.Repeat([]byte{9}, have+1))
			next(t, r, 1, 9)
			next(t, r, n, 0)
			stands(t, "of too few", r, api.ErrShort, 0, api.ErrShort)
			// What is wrong later is not told: the first error stays.
			for _, m := range append(sizes(), wrongSizes()...) {
				next(t, r, m, 0)
				stands(t, "behind ErrShort", r, api.ErrShort, 0, api.ErrShort)
			}
		}
	}
}

func TestNextOfSizesThatMayNotBe(t *testing.T) {
	for _, n := range wrongSizes() {
		for have := range 10 {
			r := wire.Read(bytes.Repeat([]byte{9}, have))
			next(t, r, n, 0)
			stands(t, "of a wrong size", r, api.ErrForm, 0, api.ErrForm)
			for _, m := range []int{1, 2, 4, 1, 3} {
				next(t, r, m, 0)
				stands(t, "behind ErrForm", r, api.ErrForm, 0, api.ErrForm)
			}
		}
	}
}

func TestReadKeepsAndTurnsNothing(t *testing.T) {
	was := []byte{1, 2, 3, 4, 5, 6, 7}
	b := roomy(was)
	r, another := wire.Read(b), wire.Read(b)
	next(t, r, 1, 1)
	next(t, r, 2, 515)
	stands(t, "of the same bytes", another, api.NoError, 7, api.ErrForm)
	spoil(b)
	next(t, r, 4, 67438087)
	stands(t, "at the end", r, api.NoError, 0, api.NoError)
	next(t, r, 1, 0)
	next(t, another, 1, 1)
	stands(t, "the other one", another, api.NoError, 6, api.ErrForm)
	spoil(b)
	untouched(t, "behind Next", b, was)
}

func TestNil(t *testing.T) {
	var r *wire.Reader
	stands(t, "nil", r, api.ErrForm, 0, api.ErrForm)
	for _, n := range append(sizes(), wrongSizes()...) {
		next(t, r, n, 0)
		stands(t, "nil", r, api.ErrForm, 0, api.ErrForm)
	}
}

// record is what a reader is to tell, by its place in the bytes.
type record struct {
	b   []byte
	at  int
	err api.Errno
}

func (r *record) next(n int) int {
	if r.err != api.NoError {
		return 0
	}
	if n != 1 && n != 2 && n != 4 {
		r.err = api.ErrForm
		return 0
	}
	if r.at+n > len(r.b) {
		r.err = api.ErrShort
		return 0
	}
	v := 0
	for range n {
		v = v*256 + int(r.b[r.at])
		r.at++
	}
	return v
}

func (r *record) stand() (err api.Errno, left int, end api.Errno) {
	if r.err != api.NoError {
		return r.err, 0, r.err
	}
	if r.at < len(r.b) {
		return r.err, len(r.b) - r.at, api.ErrForm
	}
	return r.err, 0, api.NoError
}

func TestEachShortRow(t *testing.T) {
	asked := []int{1, 2, 4, 3, 0, -1, 8}
	n := len(asked)
	for have := range 10 {
		for row := range n * n * n * n {
			b := []byte{201, 2, 203, 4, 205, 6, 207, 8, 209}[:have]
			r, want := wire.Read(b), &record{b: b}
			for range 4 {
				next(t, r, asked[row%n], want.next(asked[row%n]))
				err, left, end := want.stand()
				stands(t, "in a row", r, err, left, end)
				row /= n
			}
			if t.Failed() {
				t.FailNow()
			}
		}
	}
}

// mixed is bytes, the same in each run.
func mixed(random *rand.Rand, n int) []byte {
	var b []byte
	for range n {
		b = append(b, byte(random.IntN(256)))
	}
	return b
}

func TestWhatIsPutIsRead(t *testing.T) {
	random := rand.New(rand.NewPCG(5, 6))
	for range 500 {
		var b []byte
		var row [][2]int
		for range random.IntN(30) {
			n := sizes()[random.IntN(3)]
			v := random.IntN(greatest(n) + 1)
			if random.IntN(3) == 0 {
				v = numbers(n)[random.IntN(len(numbers(n)))]
			}
			// What is refused leaves no trace in the row.
			b, _ = wire.Put(b, n, outside(n)[random.IntN(len(outside(n)))])
			b, _ = wire.Put(b, wrongSizes()[random.IntN(len(wrongSizes()))], v)
			b, _ = wire.Put(b, n, v)
			row = append(row, [2]int{n, v})
		}
		r := wire.Read(b)
		for _, x := range row {
			next(t, r, x[0], x[1])
		}
		stands(t, "behind all that was put", r, api.NoError, 0, api.NoError)
	}
}

func TestEachNumberOfOneAndTwoBytes(t *testing.T) {
	for _, n := range []int{1, 2} {
		for v := range greatest(n) + 1 {
			b, e := wire.Put(nil, n, v)
			if len(b) != n || e != api.NoError || wire.Read(b).Next(n) != v {
				t.Fatalf("Put(nil, %d, %d) = %v, %v", n, v, b, e)
			}
		}
	}
}

func TestWhatIsSealedIsOpened(t *testing.T) {
	random := rand.New(rand.NewPCG(7, 8))
	for _, n := range []int{0, 1, 2, 3, 4, 5, 10, 100, 257, 258, 600, 70000} {
		for _, b := range [][]byte{mixed(random, n), make([]byte, n), bytes.Repeat([]byte{255}, n)} {
			sealed := wire.Seal(b)
			if got, e := wire.Open(sealed); !bytes.Equal(got, b) || e != api.NoError {
				t.Errorf("%d bytes: %d are opened, %v", n, len(got), e)
			}
			twice := wire.Seal(sealed)
			if got, e := wire.Open(twice); !bytes.Equal(got, sealed) || e != api.NoError {
				t.Errorf("%d bytes, sealed twice: %d are opened, %v", n, len(got), e)
			}
		}
	}
}

// Each place of the sealed bytes, those of the sum too, is turned to each other byte.
func TestOneByteThatIsTurnedIsSeen(t *testing.T) {
	random := rand.New(rand.NewPCG(9, 10))
	for _, n := range []int{0, 1, 2, 3, 9, 257, 258, 300} {
		for _, b := range [][]byte{mixed(random, n), make([]byte, n), bytes.Repeat([]byte{255}, n)} {
			sealed := wire.Seal(b)
			for i, was := range sealed {
				for by := 1; by < 256; by++ {
					sealed[i] = was + byte(by)
					if got, e := wire.Open(sealed); len(got) != 0 || e != api.ErrForm {
						t.Fatalf("%d bytes, the one at %d is %d, not %d: %v, %v", n, i, sealed[i], was, got, e)
					}
				}
				sealed[i] = was
			}
		}
	}
}
