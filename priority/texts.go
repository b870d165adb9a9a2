package priority

import (
	"slices"
	"strconv"
	"strings"

	"turnround/api"
	"turnround/check"
	"turnround/lists"
	"turnround/numerals"
)

// The words of the lines of a program, and what is behind the fact of a key.
const (
	classWord = "class"
	whenWord  = "when"
	byWord    = "by"
	poolWord  = "pool"
	shareWord = "share"
	ofWord    = "of"

	upwards   = '+'
	downwards = '-'
)

// reader is the program of the lines that were read, and whether its pool is among them.
type reader struct {
	program Program
	ended   bool
}

// Print returns the string of a program.
func Print(p Program) (string, api.Errno) {
	if e := CheckProgram(p); e != api.OK {
		return "", e
	}
	lines := lists.Transform(p.Classes, printClass)
	return strings.Join(lines, "") + printPool(p), api.OK
}

// Parse returns the program of a string, and the index of the first line that is wrong.
func Parse(s string) (Program, int, api.Errno) {
	if len(s) > api.MaxText {
		return Program{}, 0, api.ErrLong
	}
	var r reader
	at := 0
	for text := range strings.Lines(s) {
		if e := r.read(text); e != api.OK {
			return Program{}, at, e
		}
		at++
	}
	if !r.ended {
		return Program{}, at, api.ErrTorn
	}
	return r.program, 0, api.OK
}

func printClass(c Class) string {
	return line(slices.Concat(
		[]string{classWord, c.Name},
		printSection(whenWord, c.When, printTest),
		printSection(byWord, c.By, printKey),
	)...)
}

func printPool(p Program) string {
	return line(poolWord, strconv.Itoa(p.Pool), shareWord, strconv.Itoa(p.For), ofWord, strconv.Itoa(p.Of))
}

func line(words ...string) string { return strings.Join(words, " ") + "\n" }

// printSection returns a word and one for each element of a list, or nothing if the list is empty.
func printSection[T any](first string, list []T, show func(T) string) []string {
	if len(list) == 0 {
		return nil
	}
	return slices.Concat([]string{first}, lists.Transform(list, show))
}

func printTest(t Test) string { return t.Fact + t.Op + strconv.Itoa(t.Value) }

func printKey(k Key) string {
	if k.Down {
		return k.Fact + string(downwards)
	}
	return k.Fact + string(upwards)
}

// read reads the next line.
func (r *reader) read(text string) api.Errno {
	text, whole := strings.CutSuffix(text, "\n")
	words := strings.Split(text, " ")
	if !whole || r.ended || slices.Contains(words, "") {
		return api.ErrSyntax
	}
	readers := map[string]func([]string) api.Errno{classWord: r.readClass, poolWord: r.readPool}
	readRest, found := readers[words[0]]
	if !found {
		return api.ErrSyntax
	}
	return readRest(words[1:])
}

// readClass reads the words of a class behind the first one.
func (r *reader) readClass(words []string) api.Errno {
	c, ok := parseClass(words)
	r.program.Classes = append(r.program.Classes, c)
	return check.First(check.Unless(ok, api.ErrSyntax), checkClasses(r.program.Classes))
}

// readPool reads the words of a pool behind the first one.
func (r *reader) readPool(words []string) api.Errno {
	parts, ok := parsePool(words)
	r.program.Pool, r.program.For, r.program.Of = parts[0], parts[1], parts[2]
	r.ended = true
	return check.First(check.Unless(ok, api.ErrSyntax), CheckProgram(r.program))
}

// parseClass returns the class of words, and whether they have the form of one.
func parseClass(words []string) (Class, bool) {
	if len(words) == 0 {
		return Class{}, false
	}
	when, by := cutBefore(words[1:], byWord)
	tests, testsOK := parseSection(whenWord, when, parseTest)
	keys, keysOK := parseSection(byWord, by, parseKey)
	return Class{Name: words[0], When: tests, By: keys}, testsOK && keysOK
}

// cutBefore returns the words before the first one that is a given one, and all from there on.
func cutBefore(words []string, word string) ([]string, []string) {
	at := slices.Index(words, word)
	if at < 0 {
		at = len(words)
	}
	return words[:at], words[at:]
}

// parseSection returns what the words behind the first one stand for, and whether all have their form; there are some, or no words at all.
func parseSection[T any](first string, words []string, parse func(string) (T, bool)) ([]T, bool) {
	if len(words) == 0 {
		return nil, true
	}
	ok := words[0] == first && len(words) > 1
	list := lists.Transform(words[1:], func(word string) T {
		x, isOne := parse(word)
		ok = ok && isOne
		return x
	})
	return list, ok
}

func parseTest(word string) (Test, bool) {
	at := strings.IndexAny(word, equalOp+lessOp+greaterOp)
	if at < 0 {
		return Test{}, false
	}
	n, ok := numerals.Plain(word[at+1:])
	return Test{Fact: word[:at], Op: word[at : at+1], Value: n}, ok
}

func parseKey(word string) (Key, bool) {
	for i, r := range word {
		if i == len(word)-1 {
			return Key{Fact: word[:i], Down: r == downwards}, r == upwards || r == downwards
		}
	}
	return Key{}, false
}

// parsePool returns the numbers of the words of a pool, and whether they have the form of one.
func parsePool(words []string) ([3]int, bool) {
	var parts [3]int
	if len(words) != 5 || words[1] != shareWord || words[3] != ofWord {
		return parts, false
	}
	ok := true
	for i := range parts {
		n, isNumber := numerals.Plain(words[2*i])
		parts[i] = n
		ok = ok && isNumber
	}
	return parts, ok
}
