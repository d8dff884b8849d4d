package safe

import (
	"math"
	"math/big"
	"slices"
	"testing"

	"sortilege/api"
)

const (
	least    = math.MinInt64
	greatest = math.MaxInt64
	// root is the greatest number whose square is one of 64 bits.
	root = 3037000499
)

// edges: numbers of both signs, at the ends of the kind and beside them, at
// the powers of two and beside them, and at the roots of the ends.
func edges() []int64 {
	l := []int64{
		least, least + 1, least + 2, greatest - 2, greatest - 1, greatest,
		10, 12, -10, -12, 1000003, -1000003,
		root - 1, root, root + 1, -root + 1, -root, -root - 1,
		greatest / 3, greatest/3 + 1, least / 3, least/3 - 1,
		greatest / 7, greatest/7 + 1, least / 7, least/7 - 1,
	}
	for power := range 63 {
		p := int64(1) << power
		l = append(l, p-1, p, p+1, -p-1, -p, -p+1)
	}
	slices.Sort(l)
	return slices.Compact(l)
}

// want that a call answered this number, or ErrOver and 0 where it isn't one
// of 64 bits.
func want(t *testing.T, what string, n int64, err error, right *big.Int) {
	t.Helper()
	if !right.IsInt64() {
		if n != 0 || err != api.ErrOver {
			t.Errorf("%s: %d, %v; want ErrOver", what, n, err)
		}
		return
	}
	if n != right.Int64() || err != nil {
		t.Errorf("%s: %d, %v; want %v", what, n, err, right)
	}
}

// row: what a call of two numbers must answer.
type row struct {
	a, b, answer int64
	err          error
}

// rows: a call answers each as it must.
func rows(t *testing.T, what string, call func(a, b int64) (int64, error), l []row) {
	t.Helper()
	for _, r := range l {
		if n, err := call(r.a, r.b); n != r.answer || err != r.err {
			t.Errorf("%s(%d, %d): %d, %v; want %d, %v", what, r.a, r.b, n, err, r.answer, r.err)
		}
	}
}

// P3.1
func TestTheChaptersExample(t *testing.T) {
	rows(t, "Mul", Mul, []row{{4611686018427387904, 2, 0, api.ErrOver}})
}

// P3.1
func TestAdd(t *testing.T) {
	rows(t, "Add", Add, []row{
		{2, 3, 5, nil}, {-2, -3, -5, nil}, {2, -3, -1, nil}, {-2, 3, 1, nil}, {-7, 7, 0, nil},
		{0, 0, 0, nil}, {0, 1, 1, nil}, {-1, 0, -1, nil}, {1, -1, 0, nil},
		{greatest, 0, greatest, nil}, {0, greatest, greatest, nil},
		{least, 0, least, nil}, {0, least, least, nil},
		{greatest - 1, 1, greatest, nil}, {greatest, 1, 0, api.ErrOver}, {1, greatest, 0, api.ErrOver},
		{least + 1, -1, least, nil}, {least, -1, 0, api.ErrOver}, {-1, least, 0, api.ErrOver},
		{greatest, -1, greatest - 1, nil}, {least, 1, least + 1, nil},
		{greatest, least, -1, nil}, {least, greatest, -1, nil},
		{greatest, greatest, 0, api.ErrOver}, {least, least, 0, api.ErrOver},
		{1 << 62, 1<<62 - 1, greatest, nil}, {1 << 62, 1 << 62, 0, api.ErrOver},
		{-1 << 62, -1 << 62, least, nil}, {-1 << 62, -1<<62 - 1, 0, api.ErrOver},
	})
}

// P3.1
func TestSub(t *testing.T) {
	rows(t, "Sub", Sub, []row{
		{5, 3, 2, nil}, {3, 5, -2, nil}, {-5, -3, -2, nil}, {5, -3, 8, nil}, {-5, 3, -8, nil}, {7, 7, 0, nil},
		{0, 0, 0, nil}, {0, 1, -1, nil}, {-1, 0, -1, nil}, {1, -1, 2, nil}, {-1, -1, 0, nil},
		{greatest, 0, greatest, nil}, {0, greatest, -greatest, nil}, {-1, greatest, least, nil}, {-2, greatest, 0, api.ErrOver},
		{least, 0, least, nil}, {0, least, 0, api.ErrOver}, {-1, least, greatest, nil}, {-2, least, greatest - 1, nil},
		{greatest - 1, -1, greatest, nil}, {greatest, -1, 0, api.ErrOver},
		{least + 1, 1, least, nil}, {least, 1, 0, api.ErrOver},
		{greatest, greatest, 0, nil}, {least, least, 0, nil},
		{greatest, least, 0, api.ErrOver}, {least, greatest, 0, api.ErrOver},
		{0, least + 1, greatest, nil}, {1, least + 1, 0, api.ErrOver},
	})
}

// P3.1
func TestMul(t *testing.T) {
	rows(t, "Mul", Mul, []row{
		{2, 3, 6, nil}, {-2, 3, -6, nil}, {2, -3, -6, nil}, {-2, -3, 6, nil},
		{0, 0, 0, nil}, {0, 7, 0, nil}, {7, 0, 0, nil}, {0, -1, 0, nil}, {-1, 0, 0, nil}, {-1, -1, 1, nil}, {1, -1, -1, nil},
		{greatest, 0, 0, nil}, {0, greatest, 0, nil}, {least, 0, 0, nil}, {0, least, 0, nil},
		{greatest, 1, greatest, nil}, {1, greatest, greatest, nil}, {least, 1, least, nil}, {1, least, least, nil},
		{greatest, -1, -greatest, nil}, {-1, greatest, -greatest, nil},
		{least, -1, 0, api.ErrOver}, {-1, least, 0, api.ErrOver},
		{least + 1, -1, greatest, nil}, {-1, least + 1, greatest, nil},
		{1 << 62, -2, least, nil}, {-2, 1 << 62, least, nil}, {-1 << 62, 2, least, nil}, {2, -1 << 62, least, nil},
		{1 << 62, 2, 0, api.ErrOver}, {2, 1 << 62, 0, api.ErrOver}, {-1 << 62, -2, 0, api.ErrOver}, {-2, -1 << 62, 0, api.ErrOver},
		{1<<62 - 1, 2, greatest - 1, nil}, {greatest / 7, 7, greatest, nil}, {greatest/7 + 1, 7, 0, api.ErrOver},
		{root, root, root * root, nil}, {root + 1, root + 1, 0, api.ErrOver},
		{-root, -root, root * root, nil}, {-root - 1, root + 1, 0, api.ErrOver},
		{1 << 32, 1 << 32, 0, api.ErrOver}, {1 << 32, -1 << 31, least, nil}, {1 << 32, 1 << 31, 0, api.ErrOver},
		{greatest, greatest, 0, api.ErrOver}, {least, least, 0, api.ErrOver}, {greatest, least, 0, api.ErrOver}, {least, 2, 0, api.ErrOver},
	})
}

// P3.1
func TestNeg(t *testing.T) {
	rows(t, "Neg", func(a, _ int64) (int64, error) { return Neg(a) }, []row{
		{0, 0, 0, nil}, {1, 0, -1, nil}, {-1, 0, 1, nil}, {42, 0, -42, nil}, {-42, 0, 42, nil},
		{greatest, 0, -greatest, nil}, {greatest - 1, 0, -greatest + 1, nil},
		{least, 0, 0, api.ErrOver}, {least + 1, 0, greatest, nil}, {least + 2, 0, greatest - 1, nil},
	})
}

// P3.1, beside numbers without an end.
func TestEachPairOfEdges(t *testing.T) {
	for _, a := range edges() {
		x := big.NewInt(a)
		n, err := Neg(a)
		want(t, "Neg of "+x.String(), n, err, new(big.Int).Neg(x))
		for _, b := range edges() {
			y := big.NewInt(b)
			pair := " of " + x.String() + " and " + y.String()
			n, err = Add(a, b)
			want(t, "Add"+pair, n, err, new(big.Int).Add(x, y))
			n, err = Sub(a, b)
			want(t, "Sub"+pair, n, err, new(big.Int).Sub(x, y))
			n, err = Mul(a, b)
			want(t, "Mul"+pair, n, err, new(big.Int).Mul(x, y))
		}
	}
}

// P3.1
func TestSum(t *testing.T) {
	ones := slices.Repeat([]int64{1}, 5000)
	for _, c := range []struct {
		l      []int64
		answer int64
		err    error
	}{
		{nil, 0, nil}, {[]int64{}, 0, nil},
		{[]int64{0}, 0, nil}, {[]int64{7}, 7, nil}, {[]int64{-7}, -7, nil},
		{[]int64{greatest}, greatest, nil}, {[]int64{least}, least, nil},
		{[]int64{1, -2, 3, -4}, -2, nil}, {ones, 5000, nil},
		{append([]int64{greatest - 5000}, ones...), greatest, nil},
		{append([]int64{greatest - 4999}, ones...), 0, api.ErrOver},
		{append([]int64{least}, ones...), least + 5000, nil},
		{[]int64{greatest, least, 1}, 0, nil},
		{[]int64{greatest, -1, 1}, greatest, nil}, {[]int64{least, 1, -1}, least, nil},
		{[]int64{greatest, 1}, 0, api.ErrOver}, {[]int64{least, -1}, 0, api.ErrOver},
		// The whole would fit; it passes an end on the way.
		{[]int64{greatest, 1, -1}, 0, api.ErrOver}, {[]int64{least, -1, 1}, 0, api.ErrOver},
		{[]int64{5, greatest, -10}, 0, api.ErrOver}, {[]int64{greatest, greatest, least, least}, 0, api.ErrOver},
		{[]int64{greatest, greatest, 2}, 0, api.ErrOver}, {[]int64{least, least}, 0, api.ErrOver},
	} {
		if n, err := Sum(c.l); n != c.answer || err != c.err {
			t.Errorf("Sum of %d: %d, %v; want %d, %v", len(c.l), n, err, c.answer, c.err)
		}
	}
}

// R4
func TestSumLeavesItsList(t *testing.T) {
	for _, l := range [][]int64{{3, -1, 2}, {greatest, 1, -1}} {
		handed := slices.Clone(l)
		Sum(handed)
		if !slices.Equal(handed, l) {
			t.Errorf("Sum changed %v to %v", l, handed)
		}
	}
}

// P3.2
func TestGcd(t *testing.T) {
	for _, r := range []row{
		{0, 0, 0, nil}, {0, 1, 1, nil}, {0, 7, 7, nil}, {0, greatest, greatest, nil},
		{1, 1, 1, nil}, {7, 7, 7, nil}, {greatest, greatest, greatest, nil}, {1, 9, 1, nil},
		{8, 9, 1, nil}, {35, 64, 1, nil}, {1000003, 999983, 1, nil},
		{12, 18, 6, nil}, {4, 12, 4, nil}, {1071, 462, 21, nil}, {1 << 62, 1 << 40, 1 << 40, nil},
		// Two that follow each other in Fibonacci's row take the most steps.
		{7540113804746346429, 4660046610375530309, 1, nil},
		{greatest, greatest - 1, 1, nil}, {greatest, 1, 1, nil}, {greatest, 2, 1, nil},
		{greatest, 7, 7, nil}, {greatest, 49, 49, nil}, {greatest, 343, 49, nil}, {greatest, 1 << 62, 1, nil},
		{-1, 0, 0, api.ErrArg}, {-1, 1, 0, api.ErrArg}, {-2, 4, 0, api.ErrArg}, {-4, -6, 0, api.ErrArg}, {-1, -1, 0, api.ErrArg},
		{least, 0, 0, api.ErrArg}, {least, greatest, 0, api.ErrArg}, {least, least, 0, api.ErrArg}, {least, -1, 0, api.ErrArg},
	} {
		rows(t, "Gcd", Gcd, []row{r, {r.b, r.a, r.answer, r.err}})
	}
}

// P3.2: a divisor of both, and no greater one is.
func TestGcdIsTheGreatestDivisor(t *testing.T) {
	for a := range int64(60) {
		for b := range int64(60) {
			right := int64(0)
			for d := int64(1); d <= max(a, b); d++ {
				if a%d == 0 && b%d == 0 {
					right = d
				}
			}
			rows(t, "Gcd", Gcd, []row{{a, b, right, nil}})
		}
	}
}

// P3.2, beside numbers without an end.
func TestGcdOfEdges(t *testing.T) {
	for _, a := range edges() {
		for _, b := range edges() {
			if a < 0 || b < 0 {
				rows(t, "Gcd", Gcd, []row{{a, b, 0, api.ErrArg}})
				continue
			}
			right := new(big.Int).GCD(nil, nil, big.NewInt(a), big.NewInt(b))
			rows(t, "Gcd", Gcd, []row{{a, b, right.Int64(), nil}})
		}
	}
}

// P3.3
func TestWhatIsAddedIsTakenOffAgain(t *testing.T) {
	added := 0
	for _, a := range edges() {
		for _, b := range edges() {
			s, err := Add(a, b)
			if err != nil {
				continue
			}
			added++
			rows(t, "Sub", Sub, []row{{s, b, a, nil}, {s, a, b, nil}})
		}
	}
	if all := len(edges()) * len(edges()); added < all/2 || added == all {
		t.Errorf("Add answered %d of %d pairs without an error", added, all)
	}
}
