// Package spec is layer 2: times in seconds and nanoseconds.
package spec

import (
	"strconv"
	"strings"

	"fusee/api"
	"fusee/ktime"
)

const (
	maxMicro   = 999999  // the most microseconds beside a second
	microNanos = 1000    // nanoseconds of a microsecond
	maxSec     = 1 << 62 // the most seconds of a sum
	secDigits  = 18      // the most digits of Sec that are read
	nsecDigits = 9       // the digits of Nsec, always all of them
)

// Right asks whether a spec may be.
func Right(s api.Spec) bool {
	return s.Sec >= 0 && s.Nsec >= 0 && s.Nsec <= api.MaxNsec
}

// Time is a spec's.
func Time(s api.Spec) (int, api.Errno) {
	if !Right(s) {
		return 0, api.ErrInval
	}
	return ktime.Add(ktime.Mul(api.Second, s.Sec), s.Nsec), api.OK
}

// Of is a time's spec; that of 0, if the time is below 0.
func Of(t int) api.Spec {
	t = max(ktime.Clamp(t), 0)
	return api.Spec{Sec: t / api.Second, Nsec: t % api.Second}
}

// Micro is that of seconds and microseconds.
func Micro(sec, usec int) (api.Spec, api.Errno) {
	if sec < 0 || usec < 0 || usec > maxMicro {
		return api.Spec{}, api.ErrInval
	}
	return api.Spec{Sec: sec, Nsec: usec * microNanos}, api.OK
}

// Text is a spec's.
func Text(s api.Spec) (string, bool) {
	if !Right(s) {
		return "", false
	}
	// A whole second on top keeps the zeros in front: its own digit is cut off.
	nanos := strconv.Itoa(api.Second + s.Nsec)[1:]
	return strconv.Itoa(s.Sec) + "." + nanos, true
}

// Parse reads a spec's text.
func Parse(s string) (api.Spec, bool) {
	whole, part, _ := strings.Cut(s, ".")
	if len(whole) > secDigits || len(part) != nsecDigits || padded(whole) {
		return api.Spec{}, false
	}
	sec, ok := number(whole)
	if !ok {
		return api.Spec{}, false
	}
	nsec, ok := number(part)
	if !ok {
		return api.Spec{}, false
	}
	return api.Spec{Sec: sec, Nsec: nsec}, true
}

// padded asks whether a number's text has zeros in front, as no Sec is written.
func padded(digits string) bool {
	return len(digits) > 1 && digits[0] == '0'
}

// number reads decimal digits and nothing else: strconv would take signs too.
func number(digits string) (int, bool) {
	n := 0
	for _, r := range digits {
		if r < '0' || r > '9' {
			return 0, false
		}
		n = n*10 + int(r-'0')
	}
	return n, digits != ""
}

// Less asks which one is less.
func Less(a, b api.Spec) bool {
	if a.Sec != b.Sec {
		return a.Sec < b.Sec
	}
	return a.Nsec < b.Nsec
}

// Add is a sum.
func Add(a, b api.Spec) (api.Spec, api.Errno) {
	if !Right(a) || !Right(b) {
		return api.Spec{}, api.ErrInval
	}
	nsec := a.Nsec + b.Nsec
	// Without a sign two Secs and a carry always fit; with one they may wrap.
	sec := uint64(a.Sec) + uint64(b.Sec) + uint64(nsec/api.Second)
	if sec > maxSec {
		return api.Spec{}, api.ErrRange
	}
	return api.Spec{Sec: int(sec), Nsec: nsec % api.Second}, api.OK
}
