package tests

import (
	"math/big"
	"regexp"

	"loop.example/g00023/impl"
)

// Signatures in plain words: all numbers are as great as they like.

func bigOf(n uint64) *big.Int { return new(big.Int).SetUint64(n) }

func plainPrime(n uint64) bool {
	return n >= 3 && n <= 2147483647 && bigOf(n).ProbablyPrime(0)
}

func plainRound(p, q uint64) *big.Int {
	one := big.NewInt(1)
	return new(big.Int).Mul(new(big.Int).Sub(bigOf(p), one), new(big.Int).Sub(bigOf(q), one))
}

func plainMakeKey(p, q, e uint64) (impl.Key, bool) {
	n, round := new(big.Int).Mul(bigOf(p), bigOf(q)), plainRound(p, q)
	if p == q || !plainPrime(p) || !plainPrime(q) || n.Cmp(big.NewInt(65536)) <= 0 || e < 3 || bigOf(e).Cmp(round) >= 0 {
		return impl.Key{}, false
	}
	if new(big.Int).GCD(nil, nil, bigOf(e), round).Cmp(big.NewInt(1)) != 0 {
		return impl.Key{}, false
	}
	return impl.Key{N: n.Uint64(), E: e, D: new(big.Int).ModInverse(bigOf(e), round).Uint64()}, true
}

func plainPowMod(x, n, m uint64) uint64 {
	if m == 0 {
		return 0
	}
	return new(big.Int).Exp(bigOf(x), bigOf(n), bigOf(m)).Uint64()
}

func plainRest(b []byte, n uint64) uint64 {
	return new(big.Int).Mod(bigOf(impl.Sum(b)), bigOf(n)).Uint64()
}

func plainSign(k impl.Key, b []byte) uint64 {
	if k.N == 0 {
		return 0
	}
	return plainPowMod(plainRest(b, k.N), k.D, k.N)
}

func plainCheck(n, e uint64, b []byte, s uint64) bool {
	return n > 0 && s < n && plainPowMod(s, e, n) == plainRest(b, n)
}

var plainKeyPattern = regexp.MustCompile(`\A(` + plainNamePattern + `):(` + plainWordPattern + `):(` + plainWordPattern + `)\z`)

func plainReadKey(s string) (impl.Trust, bool) {
	parts := plainKeyPattern.FindStringSubmatch(s)
	if parts == nil {
		return impl.Trust{}, false
	}
	n, _ := impl.ReadWord32(parts[2])
	e, _ := impl.ReadWord32(parts[3])
	return impl.Trust{Name: parts[1], N: n, E: e}, true
}
