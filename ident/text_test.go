package ident_test

import (
	"fmt"
	"math"
	"strings"
	"testing"

	"apiary/api"
	"apiary/ident"
)

// 5.1: Text is 16 digits, of words and of others.
func TestText(t *testing.T) {
	for w, want := range map[uint64]string{
		0: "0000000000000000", 1: "0000000000000001", 0xa5: "00000000000000a5", math.MaxUint64: "ffffffffffffffff",
		0x1080200fffffffff: "1080200fffffffff", 0x0123456789abcdef: "0123456789abcdef", 0xfedcba9876543210: "fedcba9876543210", 1 << 59: "0800000000000000",
	} {
		if s := ident.Text(w); s != want {
			t.Error(s, want)
		}
	}
	for _, w := range suspects() {
		if s := ident.Text(w); s != fmt.Sprintf("%016x", w) {
			t.Errorf("%016x %s", w, s)
		}
	}
}

// 5.1, W7: Parse reads what Text writes of words, and refuses it of others.
func TestParse(t *testing.T) {
	for _, x := range some() {
		if w, err := ident.Parse(ident.Text(x.w)); w != x.w || err != api.OK {
			t.Errorf("%016x %016x %v", x.w, w, err)
		}
	}
	for _, w := range suspects() {
		want, wantErr := w, api.OK
		if sizeOf(w) < 0 {
			want, wantErr = 0, api.ErrWord
		}
		if got, err := ident.Parse(fmt.Sprintf("%016x", w)); got != want || err != wantErr {
			t.Errorf("%016x %016x %v", w, got, err)
		}
	}
}

// noTexts is what Text never writes: of other lengths, and with other bytes.
func noTexts() []string {
	good := "1c80200123456012"
	l := []string{
		"", "1", good[1:], good[:15], good + "0", "0" + good, good + good, strings.Repeat("0", 17), strings.Repeat("f", 17), strings.Repeat("0", 1000),
		"0x" + good, "0x" + good[2:], "0X" + good[2:], "+" + good[1:], "-" + good[1:], " " + good, " " + good[1:], good + " ", good[:15] + " ", good + "\n", "\n" + good[1:],
		"1_80200123456012", "1c80_200_1234_56", "1C80200123456012", "1080200FFFFFFFFF", "1080200ffffffffg", "1080200ffffffffF", "0o12345670123456", "1080200fffffff.f",
		"1080200fffffff\u0663", "\uff11080200ffffff", "1080200ffffff\u00e9f", "ffffffffffffffff0", "10000000000000000",
	}
	for i := range len(good) {
		for b := range 256 {
			if !strings.ContainsRune("0123456789abcdef", rune(b)) {
				l = append(l, good[:i]+string([]byte{byte(b)})+good[i+1:])
			}
		}
	}
	return l
}

// 5.1: Parse refuses another text, ahead of what is no word.
func TestParseRefuses(t *testing.T) {
	for _, s := range noTexts() {
		if w, err := ident.Parse(s); w != 0 || err != api.ErrText {
			t.Errorf("%q %016x %v", s, w, err)
		}
	}
	for _, s := range []string{"0000000000000000", "ffffffffffffffff", "1e10000000000000", "0b01010101010101", "0123456789abcdef", "1080200ffffffffe", "1d80200000000000"} {
		if w, err := ident.Parse(s); w != 0 || err != api.ErrWord {
			t.Errorf("%q %016x %v", s, w, err)
		}
	}
}
