package sort_test

import (
	"testing"

	"mullion/api"
	"mullion/sort"
	"mullion/term"
)

func TestExample(t *testing.T) {
	checkTerm(t, "the example", read(t, "(let ((y 2)) (+ y y))"), declared(), sum(number(2), number(2)), api.OK)
	checkTerm(t, "the example, nothing declared", read(t, "(let ((y 2)) (+ y y))"), nil, sum(number(2), number(2)), api.OK)
}

func TestLet(t *testing.T) {
	checkReads(t, map[string]api.Term{
		"(let ((a 1)) a)": number(1), "(let ((a 1)) x)": x(), "(let ((a 1)) (x))": x(), "(let ((a x) (b y)) (- a b))": of(api.OSub, api.SInt, x(), y()), "(let ((f 2)) f)": number(2), "(let ((a p)) (not a))": of(api.ONot, api.SBool, p()),
		// together, not one behind the other
		"(let ((x y) (y x)) (- x y))": of(api.OSub, api.SInt, y(), x()), "(let ((x (+ x y)) (y (+ y x))) (+ x y))": sum(sum(x(), y()), sum(y(), x())),
		// what was bound last counts, as far as its let goes
		"(let ((a 1)) (let ((a 2)) a))": number(2), "(let ((a 1)) (let ((a (+ a a))) a))": sum(number(1), number(1)), "(let ((a 1)) (+ (let ((a 2)) a) a))": sum(number(2), number(1)), "(let ((a 1)) (+ a (let ((a 2) (b a)) (+ a b)) a))": sum(number(1), sum(number(2), number(1)), number(1)),
		"(+ (let ((x 1)) x) x)": sum(number(1), x()), "(let ((a p)) (let ((a 3)) (+ a x)))": sum(number(3), x()), "(let ((a (let ((a 1)) (+ a a)))) (+ a 2))": sum(sum(number(1), number(1)), number(2)), "(let ((a 1)) (let ((b a)) (let ((a 2)) (+ a b))))": sum(number(2), number(1)),
		"(let ((a 1) (b 2) (c 3)) (let ((b 4)) (+ a b c)))": sum(number(1), number(4), number(3)), "(let ((a (let ((b 1)) b)) (b 2)) (+ a b))": sum(number(1), number(2)), "(let ((g 1)) (let ((h g)) (+ g h)))": sum(number(1), number(1)),
		// names that are declared as well; others that are like words
		"(let ((x p)) x)": p(), "(let ((p 1)) (+ p (f p)))": sum(number(1), f(number(1))), "(let ((Not p)) Not)": p(), "(let ((int 1)) int)": number(1), "(let ((x! 1)) x!)": number(1), "(let ((lets 1)) lets)": number(1), "(let ((== 1)) ==)": number(1), "(let ((none 1)) none)": number(1),
		"(let ((" + most + " 1)) " + most + ")": number(1),
		// numbers that are bound are numbers
		"(let ((a 3)) (* a x))": of(api.OMul, api.SInt, number(3), x()), "(let ((a (- 3))) (mod x a))": of(api.OMod, api.SInt, x(), negative(number(3))), "(let ((a 3)) (div x (- a)))": of(api.ODiv, api.SInt, x(), negative(number(3))),
	})
}

func TestLetRefuses(t *testing.T) {
	checkRefuses(t, map[string]api.Errno{
		"(let)": api.ErrForm, "(let ((a 1)))": api.ErrForm, "(let ((a 1)) a a)": api.ErrForm, "(let x)": api.ErrForm, "(let x x)": api.ErrForm, "(let 5 x)": api.ErrForm, "(let :k x)": api.ErrForm, "(let () x)": api.ErrForm, "(let (x) x)": api.ErrForm, "(let (x 1) x)": api.ErrForm,
		"(let (()) x)": api.ErrForm, "(let ((a)) x)": api.ErrForm, "(let ((a 1 2)) x)": api.ErrForm, "(let ((5 1)) x)": api.ErrForm, "(let ((:a 1)) x)": api.ErrForm, "(let (((a) 1)) x)": api.ErrForm, "(let ((() 1)) x)": api.ErrForm, "(let ((a 1) b) x)": api.ErrForm, "(let ((a 1) (b)) x)": api.ErrForm, "(let ((a 1) (5 2)) x)": api.ErrForm, "(let ((a 1) (b 1 2)) x)": api.ErrForm,
		// names
		"(let ((true 1)) x)": api.ErrName, "(let ((false 1)) x)": api.ErrName, "(let ((let 1)) x)": api.ErrName, "(let ((Int 1)) x)": api.ErrName, "(let ((Bool 1)) x)": api.ErrName, "(let ((! 1)) x)": api.ErrName, "(let ((!0 1)) x)": api.ErrName, "(let ((not p)) x)": api.ErrName, "(let ((>= 1)) x)": api.ErrName, "(let ((a 1) (- 1)) x)": api.ErrName,
		"(let ((a 1) (a 1)) x)": api.ErrName, "(let ((a 1) (b 2) (a 3)) x)": api.ErrName, "(let ((a 1) (b 2) (c 3) (b 4)) x)": api.ErrName,
		// no function any more, nor one that is of kids
		"(let ((a 1)) (a))": api.ErrForm, "(let ((x 1)) (x))": api.ErrForm, "(let ((f 1)) (f x))": api.ErrForm, "(let ((f 1)) (f w))": api.ErrForm, "(let ((f 1)) (let ((a 1)) (f a)))": api.ErrForm, "(let ((a f)) x)": api.ErrArgs,
		// what is bound there doesn't count in the terms, nor behind the let
		"(let ((a 1) (b a)) b)": api.ErrName, "(let ((b a) (a 1)) b)": api.ErrName, "(let ((a a)) a)": api.ErrName, "(+ (let ((a 1)) a) a)": api.ErrName, "(let ((b (let ((a 1)) a))) a)": api.ErrName,
		// the first error
		"(let (a) w)": api.ErrForm, "(let ((true 1) b) x)": api.ErrForm, "(let ((true 1)) x x)": api.ErrForm, "(let ((a w) (a 1)) a)": api.ErrName, "(let ((a (f p)) (a 1)) x)": api.ErrName, "(let ((! (f p))) x)": api.ErrName, "(let ((a (f p)) (b w)) x)": api.ErrSort, "(let ((a w) (b (f p))) x)": api.ErrName,
		"(let ((a (f p))) w)": api.ErrSort, "(let ((a w)) (f p))": api.ErrName, "(let ((a (+ x p))) x)": api.ErrSort, "(let ((a ())) x)": api.ErrForm, "(let ((a 1)) (f p))": api.ErrSort, "(let ((a 1)) (+ a w))": api.ErrName, "(let ((a 1)) ())": api.ErrForm, "(let ((a p)) (+ a 1))": api.ErrSort, "(let ((a x)) (* a a))": api.ErrLinear, "(let ((a 0)) (div x a))": api.ErrZero,
	})
}

// TestLetIsItsTerm: a let tells what stands there with the tree of each name in
// its place.
func TestLetIsItsTerm(t *testing.T) {
	for one, other := range map[string]string{
		"(let ((a (f x)) (b (+ y 1))) (ite (< a b) a (- b a)))": "(ite (< (f x) (+ y 1)) (f x) (- (+ y 1) (f x)))",
		"(let ((a (> x 0))) (let ((b (and a p))) (=> b a)))":    "(=> (and (> x 0) p) (> x 0))",
		"(f (let ((a (f 1))) (f (let ((b (f a))) (f b)))))":     "(f (f (f (f (f 1)))))",
	} {
		left, e := sort.Term(read(t, one), declared())
		right, g := sort.Term(read(t, other), declared())
		if e != api.OK || g != api.OK || !term.Same(left, right) {
			t.Errorf("P11.2: %s: %v; %s: %v", one, e, other, g)
		}
	}
}
