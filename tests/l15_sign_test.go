package tests

import (
	"fmt"
	"math"
	"math/rand"
	"slices"
	"strings"
	"sync"
	"testing"

	"loop.example/g00023/impl"
)

func primeIs(t *testing.T, n uint64, want bool) {
	t.Helper()
	if plainPrime(n) != want {
		t.Errorf("plain words: is %d a prime? %v", n, !want)
	}
	if impl.PrimeOk(n) != want {
		t.Errorf("is %d a prime? %v", n, !want)
	}
}

// primesBelow are all from 2 on.
func primesBelow(end int) []uint64 {
	primes := []uint64{}
	crossed := make([]bool, end)
	for n := 2; n < end; n++ {
		if crossed[n] {
			continue
		}
		primes = append(primes, uint64(n))
		for times := 2 * n; times < end; times += n {
			crossed[times] = true
		}
	}
	return primes
}

func TestPrimeOk(t *testing.T) {
	for _, n := range []uint64{3, 5, 7, 11, 13, 251, 257, 65521, 65537, 46337, 46349, 16777213, 2147483587, 2147483629, 2147483647} {
		primeIs(t, n, true)
	}
	for _, n := range []uint64{0, 1, 2, 4, 6, 8, 9, 10, 12, 14, 15, 25, 65536, 2147483645, 2147483646, 2147483648, 2147483649, 2147483659, 2147483693} {
		primeIs(t, n, false)
	}
	// Primes and others that are too great, of which the lower 31, 32 or 63 bits are a prime.
	for _, n := range []uint64{1<<31 + 11, 1<<31 + 3, 1<<32 + 3, 1<<32 + 7, 1<<32 + 15, 1<<32 + 2147483647, 1<<33 + 5, 1<<61 - 1, 1<<62 + 3, 1<<63 + 3, 1<<63 + 29, math.MaxInt64, 18446744073709551557, math.MaxUint64} {
		primeIs(t, n, false)
	}
}

func TestPrimesBelow(t *testing.T) {
	left := primesBelow(200000)[1:]
	for n := range uint64(200000) {
		isPrime := len(left) > 0 && left[0] == n
		if impl.PrimeOk(n) != isPrime {
			t.Errorf("is %d a prime? %v", n, !isPrime)
		}
		if isPrime {
			left = left[1:]
		}
	}
}

// What has just two great factors is found last.
func TestSquaresAndProductsOfPrimes(t *testing.T) {
	primes := primesBelow(46500)
	for i, p := range primes {
		if impl.PrimeOk(p * p) {
			t.Errorf("the square of %d is a prime", p)
		}
		if i > 0 && impl.PrimeOk(p*primes[i-1]) {
			t.Errorf("%d times %d is a prime", p, primes[i-1])
		}
	}
}

func TestPrimesAtTheEnd(t *testing.T) {
	for n := uint64(2147483647 - 1500); n <= 2147483647+1500; n++ {
		primeIs(t, n, plainPrime(n))
	}
}

func TestPrimesByChance(t *testing.T) {
	r := rand.New(rand.NewSource(15))
	found := 0
	for range 20000 {
		n := r.Uint64() >> (r.Intn(20) + 30)
		primeIs(t, n, plainPrime(n))
		if plainPrime(n) {
			found++
		}
	}
	if found < 500 {
		t.Error("primes:", found)
	}
}

func makesKey(t *testing.T, p, q, e uint64) (impl.Key, bool) {
	t.Helper()
	want, isKey := plainMakeKey(p, q, e)
	for _, row := range [][2]uint64{{p, q}, {q, p}} {
		if k, ok := impl.MakeKey(row[0], row[1], e); ok != isKey || k != want {
			t.Fatalf("of %d, %d and %d: %v %v, not %v %v", row[0], row[1], e, k, ok, want, isKey)
		}
	}
	return want, isKey
}

func TestMakeKey(t *testing.T) {
	for _, row := range []struct {
		p, q, e uint64
		want    impl.Key
	}{
		{1009, 99991, 17, impl.Key{N: 100890919, E: 17, D: 35572913}},
		{251, 263, 3, impl.Key{N: 66013, E: 3, D: 43667}},
		{251, 263, 65499, impl.Key{N: 66013, E: 65499, D: 65499}},
		{3, 21851, 3, impl.Key{N: 65553, E: 3, D: 14567}},
		{2147483647, 2147483629, 65537, impl.Key{N: 4611685975477714963, E: 65537, D: 551823266033158481}},
	} {
		if k, ok := makesKey(t, row.p, row.q, row.e); !ok || k != row.want {
			t.Errorf("of %d, %d and %d: %v, not %v", row.p, row.q, row.e, k, row.want)
		}
	}
}

func TestKeysThatCanNotBe(t *testing.T) {
	for _, row := range [][3]uint64{
		{1009, 1009, 17}, {257, 257, 3}, {2147483647, 2147483647, 65537}, {3, 3, 3},
		{2, 99991, 17}, {1, 99991, 17}, {0, 99991, 17}, {0, 0, 3}, {1, 1, 3}, {2, 2, 3}, {0, 0, 0}, {1008, 99991, 17}, {1007, 99991, 17}, {1011, 1013, 17}, {1001, 1003, 17},
		{2147483659, 99991, 17}, {2147483648, 99991, 17}, {1<<32 + 1009, 99991, 17}, {1<<32 + 15, 3, 5}, {18446744073709551557, 3, 5}, {math.MaxUint64, math.MaxUint64, 17}, {1 << 32, 1 << 32, 3},
		{3, 5, 3}, {3, 7, 5}, {5, 7, 5}, {251, 257, 3}, {251, 241, 7},
		{1009, 99991, 0}, {1009, 99991, 1}, {1009, 99991, 2}, {1009, 99991, 3}, {1009, 99991, 4}, {1009, 99991, 5}, {1009, 99991, 7}, {1009, 99991, 9}, {1009, 99991, 1008}, {1009, 99991, 99990}, {1009, 99991, 100789920}, {1009, 99991, 100789921}, {1009, 99991, 100789937}, {1009, 99991, 100890919}, {1009, 99991, 100789920 * 2}, {1009, 99991, math.MaxUint64}, {1009, 99991, 1 << 63}, {1009, 99991, 1<<63 + 17}, {1009, 99991, 1<<32 + 17},
		{2147483647, 2147483629, 3}, {2147483647, 2147483629, 2147483646 * 2147483628}, {2147483647, 2147483629, 2147483646*2147483628 + 1}, {2147483647, 2147483629, math.MaxUint64},
	} {
		if k, ok := makesKey(t, row[0], row[1], row[2]); ok {
			t.Errorf("of %v: %v", row, k)
		}
	}
	for _, row := range [][3]uint64{{1009, 99991, 100789919}, {1009, 99991, 13}, {2147483647, 2147483629, 5}, {2147483647, 2147483629, 2147483646*2147483628 - 1}} {
		if _, ok := makesKey(t, row[0], row[1], row[2]); !ok {
			t.Errorf("no key of %v", row)
		}
	}
}

// Between 65531 and 65545 no number is a product of two odd primes, 65536 neither.
func TestProductsBesideTheLeast(t *testing.T) {
	for _, row := range [][3]uint64{{19, 3449, 5}, {3, 21841, 11}, {3, 21839, 5}, {5, 13103, 3}, {2, 32768, 3}, {2, 32771, 3}, {4, 16384, 3}, {256, 256, 7}, {1, 65537, 3}, {65536, 1, 3}, {65537, 1, 3}} {
		if k, ok := makesKey(t, row[0], row[1], row[2]); ok {
			t.Errorf("of %v: %v", row, k)
		}
	}
	for _, row := range [][3]uint64{{5, 13109, 3}, {3, 21851, 3}, {53, 1237, 5}, {173, 379, 5}} {
		if _, ok := makesKey(t, row[0], row[1], row[2]); !ok {
			t.Errorf("no key of %v", row)
		}
	}
	primes := primesBelow(22500)[1:]
	made := map[bool]int{}
	for _, p := range primes[:60] {
		for _, q := range primes {
			if p*q < 64500 || p*q > 66500 {
				continue
			}
			for _, e := range []uint64{3, 5, 7, 11, 13, 17} {
				_, ok := makesKey(t, p, q, e)
				made[ok]++
				if ok && p*q <= 65536 {
					t.Errorf("a key of %d times %d", p, q)
				}
			}
		}
	}
	if made[true] < 500 || made[false] < 500 {
		t.Error(made)
	}
}

func TestEveryPowerOfAKey(t *testing.T) {
	const round = 250 * 262
	made := 0
	for e := range uint64(round + 300) {
		k, ok := makesKey(t, 251, 263, e)
		if !ok {
			continue
		}
		made++
		if e < 3 || e >= round || k.E != e || k.D >= round || k.D*e%round != 1 {
			t.Fatalf("%d: %v", e, k)
		}
	}
	// Of the numbers below round, so many have no factor 2, 5 or 131 in common with it; 1 is too small.
	if want := round/2*4/5*130/131 - 1; made != want {
		t.Errorf("%d keys, not %d", made, want)
	}
}

func TestKeysByChance(t *testing.T) {
	r := rand.New(rand.NewSource(16))
	made := map[bool]int{}
	primeNear := func() uint64 {
		n := r.Uint64()>>(33+r.Intn(20)) | 1
		for r.Intn(20) > 0 && !plainPrime(n) && n < 2147483647 {
			n += 2
		}
		return n
	}
	for range 3000 {
		p, q := primeNear(), primeNear()
		_, ok := makesKey(t, p, q, r.Uint64()>>(r.Intn(62)+1)|1)
		made[ok]++
	}
	if made[true] < 300 || made[false] < 300 {
		t.Error(made)
	}
}

func powIs(t *testing.T, x, n, m, want uint64) {
	t.Helper()
	if plain := plainPowMod(x, n, m); plain != want {
		t.Errorf("plain words: %d to the %d by %d leaves %d, not %d", x, n, m, plain, want)
	}
	if got := impl.PowMod(x, n, m); got != want {
		t.Errorf("%d to the %d by %d leaves %d, not %d", x, n, m, got, want)
	}
}

func TestPowMod(t *testing.T) {
	const most, prime = math.MaxUint64, 18446744073709551557
	for _, row := range [][4]uint64{
		{3, 200, 13, 9}, {2, 10, 1000, 24}, {2, 10, 1024, 0}, {2, 10, 1025, 1024}, {7, 1, 5, 2}, {7, 2, 50, 49}, {10, 19, most, 10000000000000000000}, {10, 20, most, 7766279631452241925},
		{0, 0, 2, 1}, {0, 0, most, 1}, {0, 1, 7, 0}, {0, most, 7, 0}, {1, most, 7, 1}, {5, 0, 7, 1}, {most, 0, 2, 1}, {most, 0, most, 1},
		{0, 0, 0, 0}, {3, 5, 0, 0}, {most, most, 0, 0}, {0, 0, 1, 0}, {3, 5, 1, 0}, {3, 0, 1, 0}, {most, most, 1, 0},
		{3, 5, 2, 1}, {4, 5, 2, 0}, {most, most, 2, 1}, {most - 1, most, 2, 0}, {most - 1, 0, 2, 1},
		{most, 1, most, 0}, {most, most, most, 0}, {most - 1, 1, most, most - 1}, {most - 1, 2, most, 1}, {most - 1, most, most, most - 1}, {most - 1, most - 1, most, 1}, {2, 64, most, 1}, {2, 63, most, 1 << 63}, {2, most, most, 1 << 63},
		{most, 2, prime, 58 * 58}, {most, 3, prime, 58 * 58 * 58}, {3, prime - 1, prime, 1}, {most, prime - 1, prime, 1}, {most, prime, prime, 58}, {prime - 1, 2, prime, 1}, {prime - 1, 3, prime, prime - 1}, {prime, 5, prime, 0}, {prime + 1, most, prime, 1},
		{1 << 32, 2, most, 1}, {1 << 32, 2, 1<<63 + 1, 1<<63 - 1}, {1<<32 + 1, 2, most, 1<<33 + 2}, {2, 64, 1 << 63, 0}, {3, 41, 1 << 63, 8802880266606458979}, {2, 1 << 63, 3, 1}, {2, 1<<63 + 1, 3, 2},
	} {
		powIs(t, row[0], row[1], row[2], row[3])
	}
}

func TestPowModOfSmallNumbers(t *testing.T) {
	for m := range uint64(20) {
		for x := range uint64(25) {
			want := uint64(0)
			if m > 0 {
				want = 1 % m
			}
			for n := range uint64(25) {
				powIs(t, x, n, m, want)
				if m > 0 {
					want = want * x % m
				}
			}
		}
	}
}

func TestPowModAtEdges(t *testing.T) {
	edges := []uint64{0, 1, 2, 3, 4, 5, 10, 255, 256, 65535, 65536, 65537, 1<<31 - 1, 1 << 31, 1<<32 - 1, 1 << 32, 1<<32 + 1, 4611685975477714963, 1<<63 - 1, 1 << 63, 1<<63 + 1, 18446744073709551557, math.MaxUint64 - 1, math.MaxUint64}
	for _, x := range edges {
		for _, n := range edges {
			for _, m := range edges {
				powIs(t, x, n, m, plainPowMod(x, n, m))
			}
		}
	}
}

func TestPowModByChance(t *testing.T) {
	r := rand.New(rand.NewSource(17))
	for range 10000 {
		x, n, m := r.Uint64()>>r.Intn(64), r.Uint64()>>r.Intn(64), r.Uint64()>>r.Intn(64)
		powIs(t, x, n, m, plainPowMod(x, n, m))
	}
}

// someKeys are keys of several sizes that MakeKey made.
func someKeys(t *testing.T) []impl.Key {
	t.Helper()
	keys := []impl.Key{}
	for _, row := range [][3]uint64{{5, 13109, 3}, {3, 21851, 3}, {251, 263, 3}, {251, 263, 65499}, {1009, 99991, 17}, {46337, 46349, 5}, {3, 2147483647, 5}, {2147483647, 2147483629, 65537}, {2147483629, 2147483587, 5}, {2147483647, 2147483629, 2147483646*2147483628 - 1}} {
		k, ok := impl.MakeKey(row[0], row[1], row[2])
		if !ok {
			t.Fatalf("no key of %v", row)
		}
		keys = append(keys, k)
	}
	return keys
}

// otherKeys are keys that MakeKey never makes.
func otherKeys() []impl.Key {
	const most = math.MaxUint64
	return []impl.Key{{}, {N: 0, E: 3, D: 5}, {N: 0, E: most, D: most}, {N: 1, E: 3, D: 5}, {N: 1}, {N: 2, E: 3, D: 5}, {N: 2, E: 3}, {N: 15, E: 3, D: 3}, {N: 65536, E: 3, D: 5}, {N: 65553}, {N: most}, {N: most, D: 1}, {N: most, E: most, D: most}, {N: 1 << 63, E: 3, D: 5}, {N: 1<<63 + 1, E: 1, D: 1}, {N: 18446744073709551557, E: 3, D: 12297829382473034371}, {E: 3, D: 5}}
}

var someTexts = []string{"", "x", "y", "a longer text, with blanks\nand lines\n", "\x00", "\xff\x00\xff", strings.Repeat("z", 5000), "path 0000000000000-a\n"}

func TestSign(t *testing.T) {
	for _, k := range append(someKeys(t), otherKeys()...) {
		for _, text := range someTexts {
			want := plainSign(k, []byte(text))
			if got := impl.Sign(k, []byte(text)); got != want {
				t.Errorf("%v signs %.20q with %d, not %d", k, text, got, want)
			}
			if k.N > 0 && want >= k.N || k.N == 0 && want != 0 {
				t.Errorf("%v signs %.20q with %d", k, text, want)
			}
		}
	}
	if s := impl.Sign(impl.Key{}, nil); s != 0 {
		t.Error("a key of zeros signs with", s)
	}
	if s := impl.Sign(impl.Key{N: math.MaxUint64, D: 1}, []byte("x")); s != impl.Sum([]byte("x")) {
		t.Error("to the 1 by the greatest number leaves", s)
	}
	// The E of a key is for others.
	k := someKeys(t)[4]
	if impl.Sign(k, []byte("x")) != impl.Sign(impl.Key{N: k.N, D: k.D}, []byte("x")) {
		t.Error("what is signed hangs on E")
	}
}

func checkIs(t *testing.T, n, e uint64, b []byte, s uint64, want bool) {
	t.Helper()
	if plainCheck(n, e, b, s) != want {
		t.Errorf("plain words: %d, %d check %.20q with %d: %v", n, e, b, s, !want)
	}
	if impl.Check(n, e, b, s) != want {
		t.Errorf("%d, %d check %.20q with %d: %v", n, e, b, s, !want)
	}
}

func TestCheck(t *testing.T) {
	for _, k := range someKeys(t) {
		for _, text := range someTexts {
			b := []byte(text)
			s := impl.Sign(k, b)
			checkIs(t, k.N, k.E, b, s, true)
			for _, other := range []uint64{s + 1, s - 1, s ^ 1, s + k.N, s + 2*k.N, s + 3*k.N, k.N, k.N + 1, math.MaxUint64, k.N - 1, 0, 1, k.N - s} {
				if other != s {
					checkIs(t, k.N, k.E, b, other, false)
				}
			}
			checkIs(t, 0, k.E, b, s, false)
			checkIs(t, 0, k.E, b, 0, false)
			checkIs(t, k.N+2, k.E, b, s, plainCheck(k.N+2, k.E, b, s))
			checkIs(t, k.N, k.E+1, b, s, plainCheck(k.N, k.E+1, b, s))
			checkIs(t, k.N, 0, b, s, false)
			checkIs(t, k.N, k.E, append(b, 'x'), s, false)
			if len(b) > 0 {
				checkIs(t, k.N, k.E, b[1:], s, false)
			}
		}
	}
	checkIs(t, 0, 0, nil, 0, false)
	checkIs(t, 0, 3, []byte("x"), 0, false)
	checkIs(t, 1, 3, []byte("x"), 0, true)
	checkIs(t, 1, 0, []byte("x"), 0, true)
	checkIs(t, 1, 3, []byte("x"), 1, false)
	sum := impl.Sum([]byte("x"))
	checkIs(t, math.MaxUint64, 1, []byte("x"), sum, true)
	checkIs(t, math.MaxUint64, 1, []byte("x"), sum+1, false)
	checkIs(t, sum, 1, []byte("x"), 0, true)
	checkIs(t, sum, 1, []byte("x"), sum, false)
	checkIs(t, sum+1, 1, []byte("x"), sum, true)
	checkIs(t, 2, 5, []byte("x"), sum%2, true)
	checkIs(t, 2, 5, []byte("x"), 1-sum%2, false)
	checkIs(t, 2, 5, []byte("x"), 2+sum%2, false)
	for _, k := range otherKeys() {
		for _, text := range someTexts {
			for _, s := range []uint64{0, 1, 2, 3, k.N - 1, k.N, k.N + 1, impl.Sign(k, []byte(text)), math.MaxUint64} {
				checkIs(t, k.N, k.E, []byte(text), s, plainCheck(k.N, k.E, []byte(text), s))
			}
		}
	}
}

// Of all numbers below N just the one that the key makes checks.
func TestNoOtherNumberChecks(t *testing.T) {
	for _, k := range someKeys(t)[:4] {
		for _, text := range someTexts[:4] {
			signed := impl.Sign(k, []byte(text))
			for s := range k.N + 1000 {
				if impl.Check(k.N, k.E, []byte(text), s) != (s == signed) {
					t.Fatalf("%v: %q was signed with %d; %d checks: %v", k, text, signed, s, s != signed)
				}
			}
		}
	}
	r := rand.New(rand.NewSource(18))
	for _, k := range someKeys(t)[4:] {
		signed := impl.Sign(k, []byte("x"))
		for range 2000 {
			s := r.Uint64() >> r.Intn(64)
			if impl.Check(k.N, k.E, []byte("x"), s) != (s == signed) {
				t.Fatalf("%v: it was signed with %d; %d checks: %v", k, signed, s, s != signed)
			}
		}
	}
}

// A number checks with the texts of which Sum leaves one rest, and with no other one.
func TestNoTextOfAnotherRestChecks(t *testing.T) {
	for number, k := range someKeys(t) {
		signed := impl.Sign(k, []byte("x"))
		rest, alike := plainRest([]byte("x"), k.N), 0
		for i := range 300000 {
			text := fmt.Append(nil, "text ", i)
			want := impl.Sum(text)%k.N == rest
			if impl.Check(k.N, k.E, text, signed) != want {
				t.Fatalf("%v: %q checks: %v", k, text, !want)
			}
			if want {
				alike++
			}
			if number > 1 && i > 2000 {
				break
			}
		}
		if number < 2 && alike == 0 {
			t.Errorf("%v: no text leaves the same rest", k)
		}
	}
}

func keyTextIs(t *testing.T, name string, n, e uint64, want string) {
	t.Helper()
	if got := impl.KeyText(name, n, e); got != want {
		t.Errorf("of %.80q, %d, %d: %q, not %q", name, n, e, got, want)
	}
	if want == "" {
		return
	}
	if got, ok := impl.ReadKey(want); !ok || got != (impl.Trust{Name: name, N: n, E: e}) {
		t.Errorf("%q is read as %v %v", want, got, ok)
	}
}

func TestKeyText(t *testing.T) {
	const zero, most = "0000000000000", "gzzzzzzzzzzzz"
	keyTextIs(t, "a", 0, 0, "a:"+zero+":"+zero)
	keyTextIs(t, "a", 5, 7, "a:0000000000005:0000000000007")
	keyTextIs(t, "cache.example-1", 32, 31, "cache.example-1:0000000000010:000000000000z")
	keyTextIs(t, "+", math.MaxUint64, 0, "+:"+most+":"+zero)
	keyTextIs(t, "_x.", 0, math.MaxUint64, "_x.:"+zero+":"+most)
	keyTextIs(t, "-", math.MaxUint64, math.MaxUint64, "-:"+most+":"+most)
	keyTextIs(t, strings.Repeat("n", 60), 1, 2, strings.Repeat("n", 60)+":0000000000001:0000000000002")
	for _, name := range []string{"", ".", ".a", strings.Repeat("n", 61), "a:b", ":", "a b", "a\n", "\n", "é", "a/b", "\x00", "a\x00"} {
		keyTextIs(t, name, 5, 7, "")
	}
}

// readsKey holds an answer against a plain pattern, and tells whether there is a key.
func readsKey(t *testing.T, s string) bool {
	t.Helper()
	want, isKey := plainReadKey(s)
	got, ok := impl.ReadKey(s)
	if ok != isKey || got != want {
		t.Fatalf("%q is read as %v %v, not as %v %v", s, got, ok, want, isKey)
	}
	if ok && impl.KeyText(got.Name, got.N, got.E) != s {
		t.Fatalf("%q is not the text of what is read", s)
	}
	return ok
}

func TestReadKeyOfOtherTexts(t *testing.T) {
	for _, s := range []string{impl.KeyText("a", 5, 7), impl.KeyText("name.of-a_key+", 4611685975477714963, 65537), impl.KeyText(strings.Repeat("n", 60), math.MaxUint64, math.MaxUint64)} {
		if !readsKey(t, s) {
			t.Fatalf("%q is not read", s)
		}
		for at := range s {
			if readsKey(t, s[:at]) {
				t.Fatalf("%q is read", s[:at])
			}
			readsKey(t, s[at:])
			readsKey(t, s[:at]+s[at+1:])
			for _, other := range allBytes() {
				readsKey(t, s[:at]+string([]byte{other})+s[at+1:])
				readsKey(t, s[:at]+string([]byte{other})+s[at:])
			}
		}
		for _, other := range allBytes() {
			if readsKey(t, s+string([]byte{other})) {
				t.Fatalf("%q is read with %q behind", s, other)
			}
		}
	}
}

func TestTextsThatAreNoKeys(t *testing.T) {
	const word = "0123456789abc"
	words := []string{"", "0", word[:12], word + "0", word + word, "h123456789abc", "z123456789abc", "0123456789abe", "0123456789abo", "0123456789abt", "0123456789abu", "0123456789abC", "0123456789ab ", " 123456789abc", "-123456789abc", "0123456789ab\n", "gzzzzzzzzzzzz0", "hzzzzzzzzzzzz"}
	for _, other := range words {
		for _, s := range []string{"a:" + other + ":" + word, "a:" + word + ":" + other, "a:" + other + ":" + other} {
			if readsKey(t, s) {
				t.Errorf("%q is read", s)
			}
		}
	}
	for _, s := range []string{
		"", ":", "::", ":::", "a", "a:", "a::", word, "a:" + word, "a:" + word + ":", "a" + word + word, "a:" + word + word, "a" + word + ":" + word, word + ":" + word,
		":" + word + ":" + word, "::" + word + ":" + word, "a::" + word + ":" + word, "a:" + word + "::" + word, "a:" + word + ":" + word + ":", ":a:" + word + ":" + word, "a:b:" + word + ":" + word, "a:" + word + ":" + word + ":" + word,
		"a;" + word + ";" + word, "a:" + word + ";" + word, "a :" + word + ":" + word, "a:" + word + ": " + word, " a:" + word + ":" + word, ".a:" + word + ":" + word, "a:" + word + ":" + word + "\n", "a:" + word + ":" + word + " ", strings.Repeat("n", 61) + ":" + word + ":" + word, "\xff:" + word + ":" + word, "a b:" + word + ":" + word,
	} {
		if readsKey(t, s) {
			t.Errorf("%q is read", s)
		}
	}
	for _, s := range []string{"a:" + word + ":" + word, "A:" + word + ":gzzzzzzzzzzzz", "-:gzzzzzzzzzzzz:" + word, word + ":" + word + ":" + word} {
		if !readsKey(t, s) {
			t.Errorf("%q is not read", s)
		}
	}
	everyText("a:0", 9, func(s string) {
		if readsKey(t, s) {
			t.Errorf("%q is read", s)
		}
	})
}

func TestReadKeyByChance(t *testing.T) {
	r := rand.New(rand.NewSource(19))
	seen := map[bool]int{}
	for range 20000 {
		name := strings.Repeat("n", r.Intn(62)) + "x"
		if r.Intn(2) == 0 {
			name = string([]byte{byte(r.Intn(128)), byte(r.Intn(128))})
		}
		n, e := r.Uint64()>>r.Intn(64), r.Uint64()>>r.Intn(64)
		text := impl.KeyText(name, n, e)
		if (text != "") != plainNames60.MatchString(name) {
			t.Fatalf("%q: %q", name, text)
		}
		if text == "" {
			text = name + ":" + impl.Word32(n) + ":" + impl.Word32(e)
		} else {
			keyTextIs(t, name, n, e, name+":"+impl.Word32(n)+":"+impl.Word32(e))
		}
		for range r.Intn(2) {
			at := r.Intn(len(text))
			text = text[:at] + string([]byte{byte(r.Intn(128))}) + text[at+r.Intn(2):]
		}
		seen[readsKey(t, text)]++
	}
	if seen[true] < 3000 || seen[false] < 3000 {
		t.Error(seen)
	}
}

func TestSignaturesAreTheSameEachTime(t *testing.T) {
	for _, k := range someKeys(t) {
		group := sync.WaitGroup{}
		signed := impl.Sign(k, []byte("x"))
		for range 4 {
			group.Go(func() {
				for range 20 {
					if impl.Sign(k, []byte("x")) != signed || !impl.Check(k.N, k.E, []byte("x"), signed) || impl.Check(k.N, k.E, []byte("y"), signed) {
						t.Errorf("%v: another answer", k)
					}
				}
			})
		}
		group.Wait()
	}
}

func TestKeysAreNewMemory(t *testing.T) {
	b, stays := roomyAll([]byte("some bytes"))
	given := []any{strings.Clone("name"), impl.KeyText("name", 5, 7), impl.KeyText("other", 5, 7) + ":"}
	answers, befores := []any{}, []string{}
	see := func(answer any) {
		if !isNew(answer, given...) {
			t.Errorf("%v is not new", answer)
		}
		answers = append(answers, answer)
		befores = append(befores, fmt.Sprint(answer))
	}
	for range 2 {
		see(impl.KeyText(given[0].(string), 5, 7))
		for _, text := range given[1:] {
			read, _ := impl.ReadKey(text.(string))
			see(read)
		}
		for _, k := range append(someKeys(t), otherKeys()...) {
			impl.Check(k.N, k.E, b, impl.Sign(k, b))
		}
	}
	if !stays() {
		t.Error("an argument was changed")
	}
	for i, answer := range answers {
		if fmt.Sprint(answer) != befores[i] || !isNew(answer, append(slices.Clone(answers[:i]), answers[i+1:]...)...) {
			t.Errorf("a later call shares memory with %s", befores[i])
		}
	}
}
