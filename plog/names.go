package plog

import (
	"strconv"
	"strings"

	"logboom/api"
)

const (
	longestPrefix = 40
	baseDigits    = 10
)

func isPrefix(text string) bool {
	if len(text) < 1 || len(text) > longestPrefix {
		return false
	}
	for i := range len(text) {
		if c := text[i]; (c < 'a' || c > 'z') && (c < '0' || c > '9') && c != '-' {
			return false
		}
	}
	return true
}

// file is what the file of the segment with that base is called.
func (l *Log) file(base int) string {
	digits := strconv.Itoa(base)
	return l.prefix + "-" + strings.Repeat("0", baseDigits-len(digits)) + digits + ".log"
}

// bases are those of the files on the disk that are called as segments are, rising: as names they rise, too.
func (l *Log) bases() []int {
	var list []int
	for _, name := range l.disk().Names() {
		base, _ := strconv.Atoi(strings.TrimSuffix(strings.TrimPrefix(name, l.prefix+"-"), ".log"))
		// What is no number, or one in other digits, is not what would be written of it.
		if base >= 0 && base <= api.MaxOffset && l.file(base) == name {
			list = append(list, base)
		}
	}
	return list
}

func (l *Log) metaFile() string { return l.prefix + ".meta" }

func metaText(start, high int) string {
	return strconv.Itoa(start) + " " + strconv.Itoa(high) + "\n"
}

// keep has START and HIGH be these, on the disk first.
func (l *Log) keep(start, high int) api.Errno {
	e := l.disk().Replace(l.metaFile(), metaText(start, high))
	if e == api.OK {
		l.start, l.high = start, high
	}
	return e
}

// loadMeta has START and HIGH be what was kept, if something was.
func (l *Log) loadMeta() api.Errno {
	text, e := l.disk().Read(l.metaFile())
	if e != api.OK {
		return api.OK
	}
	first, second, _ := strings.Cut(strings.TrimSuffix(text, "\n"), " ")
	start, _ := strconv.Atoi(first)
	high, _ := strconv.Atoi(second)
	// What are no numbers, or such in other digits, is not what would be written of them.
	if start < 0 || start > high || high > api.MaxOffset || metaText(start, high) != text {
		return api.ErrForm
	}
	l.start, l.high = start, high
	return api.OK
}
