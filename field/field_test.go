package field

import (
	"math"
	"math/big"
	"math/rand"
	"testing"

	"rillmeter/api"
)

var prime = new(big.Int).SetUint64(api.P)

// edges are the numbers at which a reduction may go wrong: round 0, the multiples of P, the powers of 2 near them and the ends of the kinds.
func edges() []uint64 {
	list := []uint64{0, 1, 2, 3, 5, 7, 8}
	for _, middle := range []uint64{1 << 31, 1 << 32, 1 << 60, api.P, 2 * api.P, 3 * api.P, 4 * api.P, 7 * api.P, 8 * api.P, 1 << 62, 1 << 63} {
		list = append(list, middle-2, middle-1, middle, middle+1, middle+2)
	}
	return append(list, math.MaxUint64-7, math.MaxUint64-1, math.MaxUint64)
}

// samples are the edges and numbers that are the same in each run.
func samples(more int) []uint64 {
	source := rand.New(rand.NewSource(61))
	list := edges()
	for range more {
		list = append(list, source.Uint64())
	}
	return list
}

func wide(a uint64) *big.Int { return new(big.Int).SetUint64(a) }

func modulo(n *big.Int) uint64 { return new(big.Int).Mod(n, prime).Uint64() }

func expect(t *testing.T, call string, got uint64, want uint64, given ...any) {
	t.Helper()
	if got != want {
		t.Fatalf("%s of %v: %d, want %d", call, given, got, want)
	}
}

// P1.1

func TestExamples(t *testing.T) {
	expect(t, "Add", Add(api.P-1, 2), 1)
	expect(t, "Mul", Mul(1<<60, 2), 1)
	expect(t, "Signed", Signed(-1), api.P-1)
	inverse, ok := Inv(2)
	if !ok {
		t.Fatal("2 has no inverse")
	}
	expect(t, "Inv", inverse, 1<<60)
}

func TestOf(t *testing.T) {
	for _, c := range []struct{ given, want uint64 }{
		{0, 0}, {1, 1}, {api.P - 1, api.P - 1},
		{api.P, 0}, {api.P + 1, 1}, {2*api.P - 1, api.P - 1}, {2 * api.P, 0},
		{1 << 61, 1}, {1 << 62, 2}, {1 << 63, 4},
		{8 * api.P, 0}, {8*api.P + 7, 7}, {math.MaxUint64, 7},
	} {
		expect(t, "Of", Of(c.given), c.want, c.given)
	}
	for _, a := range samples(10000) {
		expect(t, "Of", Of(a), modulo(wide(a)), a)
	}
}

func TestSigned(t *testing.T) {
	for _, c := range []struct {
		given int
		want  uint64
	}{
		{0, 0}, {1, 1}, {-1, api.P - 1}, {-2, api.P - 2},
		{api.P - 1, api.P - 1}, {api.P, 0}, {api.P + 1, 1},
		{-api.P + 1, 1}, {-api.P, 0}, {-api.P - 1, api.P - 1}, {-2 * api.P, 0}, {-4 * api.P, 0},
		{math.MaxInt64, 3}, {math.MinInt64 + 1, api.P - 3}, {math.MinInt64, api.P - 4},
	} {
		expect(t, "Signed", Signed(c.given), c.want, c.given)
	}
	for _, a := range samples(10000) {
		n := int(a)
		expect(t, "Signed", Signed(n), modulo(big.NewInt(int64(n))), n)
	}
}

func TestAddSubMul(t *testing.T) {
	list := samples(200)
	for _, a := range list {
		for _, b := range list {
			expect(t, "Add", Add(a, b), modulo(new(big.Int).Add(wide(a), wide(b))), a, b)
			expect(t, "Sub", Sub(a, b), modulo(new(big.Int).Sub(wide(a), wide(b))), a, b)
			expect(t, "Mul", Mul(a, b), modulo(new(big.Int).Mul(wide(a), wide(b))), a, b)
		}
	}
}

func TestPow(t *testing.T) {
	for _, a := range samples(20) {
		expect(t, "Pow", Pow(a, 0), 1, a, 0)
		expect(t, "Pow", Pow(a, 1), Of(a), a, 1)
		product := uint64(1)
		for n := range uint64(200) {
			expect(t, "Pow", Pow(a, n), product, a, n)
			product = Mul(product, a)
		}
	}
	for _, n := range []uint64{1, 2, api.P - 1, api.P, math.MaxUint64} {
		expect(t, "Pow", Pow(0, n), 0, 0, n)
		expect(t, "Pow", Pow(api.P, n), 0, uint64(api.P), n)
		expect(t, "Pow", Pow(1, n), 1, 1, n)
	}
	expect(t, "Pow", Pow(0, 0), 1, 0, 0)
	expect(t, "Pow", Pow(api.P, 0), 1, uint64(api.P), 0)
}

// An exponent is a number of its own: it is not taken modulo P.
func TestPowOfGreatExponents(t *testing.T) {
	expect(t, "Pow", Pow(3, api.P), 3)
	list := samples(50)
	for _, a := range list {
		for _, n := range list {
			want := new(big.Int).Exp(wide(a), wide(n), prime).Uint64()
			expect(t, "Pow", Pow(a, n), want, a, n)
		}
	}
}

// P1.2

func TestInv(t *testing.T) {
	for _, a := range samples(2000) {
		inverse, ok := Inv(a)
		if Of(a) == 0 {
			if ok || inverse != 0 {
				t.Fatalf("Inv of %d: %d, %v, want 0, false", a, inverse, ok)
			}
			continue
		}
		if !ok {
			t.Fatalf("Inv of %d: false", a)
		}
		expect(t, "Inv", inverse, new(big.Int).ModInverse(wide(a), prime).Uint64(), a)
		expect(t, "Mul with Inv", Mul(a, inverse), 1, a)
	}
}

func TestInvOfNought(t *testing.T) {
	for k := range uint64(9) {
		if inverse, ok := Inv(k * api.P); ok || inverse != 0 {
			t.Errorf("Inv of %d times P: %d, %v, want 0, false", k, inverse, ok)
		}
	}
}

// P1.3

func TestLaws(t *testing.T) {
	list := append(edges(), 0x123456789abcdef0, 0xfedcba9876543210)
	for _, a := range list {
		for _, b := range list {
			expect(t, "Add turned about", Add(a, b), Add(b, a), a, b)
			expect(t, "Mul turned about", Mul(a, b), Mul(b, a), a, b)
			expect(t, "Sub behind Add", Sub(Add(a, b), b), Of(a), a, b)
			expect(t, "Add behind Sub", Add(Sub(a, b), b), Of(a), a, b)
			for _, c := range list {
				expect(t, "Add of three", Add(Add(a, b), c), Add(a, Add(b, c)), a, b, c)
				expect(t, "Mul of three", Mul(Mul(a, b), c), Mul(a, Mul(b, c)), a, b, c)
				expect(t, "Mul with a sum", Mul(a, Add(b, c)), Add(Mul(a, b), Mul(a, c)), a, b, c)
			}
		}
	}
}

func TestProductOfNought(t *testing.T) {
	list := samples(200)
	for _, a := range list {
		for _, b := range list {
			if (Mul(a, b) == 0) != (Of(a) == 0 || Of(b) == 0) {
				t.Fatalf("Mul of %d and %d: %d", a, b, Mul(a, b))
			}
		}
	}
}

// What is answered is below P, whatever was given.
func TestAnswersAreBelowThePrime(t *testing.T) {
	for _, a := range edges() {
		inverse, _ := Inv(a)
		list := []uint64{Of(a), Signed(int(a)), inverse}
		for _, b := range edges() {
			list = append(list, Add(a, b), Sub(a, b), Mul(a, b), Pow(a, b))
		}
		for _, n := range list {
			if n >= api.P {
				t.Fatalf("an answer of %d to %d", n, a)
			}
		}
	}
}
