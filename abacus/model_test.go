package abacus_test

import (
	"encoding/binary"
	"hash/crc32"
	"math"
	"math/rand/v2"
	"regexp"
	"strconv"
	"strings"
	"testing"

	"abacus/api"
)

// What the document says of files, told of whole files and not of pieces, to hold
// Readers against.

// modelOf is the verdict on a file.
func modelOf(file string) verdict {
	switch {
	case file == "":
		return failsAtEnd(api.ErrFormat)
	case file[0] == '%':
		return textModel(file)
	case file[0] == 'A':
		return containerModel(file)
	}
	return verdict{err: api.ErrFormat, at: 1}
}

var (
	firstLineText = regexp.MustCompile(`^%%MatrixMarket[ \t\r]+matrix[ \t\r]+(array|coordinate)[ \t\r]+real[ \t\r]+(general|symmetric)[ \t\r]*$`)
	twoSizes      = regexp.MustCompile(`^[ \t\r]*([0-9]{1,9})[ \t\r]+([0-9]{1,9})[ \t\r]*$`)
	threeSizes    = regexp.MustCompile(`^[ \t\r]*([0-9]{1,9})[ \t\r]+([0-9]{1,9})[ \t\r]+([0-9]{1,9})[ \t\r]*$`)
	oneWord       = regexp.MustCompile(`^[ \t\r]*([^ \t\r]+)[ \t\r]*$`)
	entryWords    = regexp.MustCompile(`^[ \t\r]*([0-9]{1,9})[ \t\r]+([0-9]{1,9})[ \t\r]+([^ \t\r]+)[ \t\r]*$`)
	infinityText  = regexp.MustCompile(`^([+-]?inf|nan)$`)
)

// latin makes each byte a rune of its own, as expressions match runes.
func latin(text string) string {
	runes := make([]rune, len(text))
	for i := range len(text) {
		runes[i] = rune(text[i])
	}
	return string(runes)
}

func numberModel(text string) (uint64, bool) {
	if len(text) > 60 || !numberText.MatchString(text) && !infinityText.MatchString(text) {
		return 0, false
	}
	if text == "nan" {
		return canonicalBits, true
	}
	x, _ := strconv.ParseFloat(text, 64) // infinity, where it is out of range
	return math.Float64bits(x), true
}

// told is what a text has told so far.
type told struct {
	coordinate, symmetric bool
	rows, cols, count     int // count: below 0, if there were no sizes
	entries               int
	numbers               map[[2]int]uint64
}

func textModel(file string) verdict {
	state := told{count: -1, numbers: map[[2]int]uint64{}}
	lines := strings.Split(file, "\n")
	at := 0
	for i, text := range lines {
		if len(text) > 200 {
			return verdict{err: api.ErrLine, at: at + 201}
		}
		if i == len(lines)-1 {
			if text != "" {
				return failsAtEnd(api.ErrEnd)
			}
			break
		}
		at += len(text) + 1
		if err := state.line(i, latin(text)); err != api.OK {
			return verdict{err: err, at: at}
		}
	}
	if state.count < 0 || state.entries < state.count {
		return failsAtEnd(api.ErrEnd)
	}
	return state.verdict()
}

func (s *told) line(i int, text string) api.Errno {
	switch {
	case i == 0:
		words := firstLineText.FindStringSubmatch(text)
		if words == nil {
			return api.ErrFormat
		}
		s.coordinate, s.symmetric = words[1] == "coordinate", words[2] == "symmetric"
		return api.OK
	case strings.Trim(text, " \t\r") == "", text[0] == '%' && s.count < 0:
		return api.OK
	case text[0] == '%':
		return api.ErrFormat
	case s.count < 0:
		return s.sizes(text)
	}
	return s.entry(text)
}

func (s *told) sizes(text string) api.Errno {
	words := twoSizes.FindStringSubmatch(text)
	if s.coordinate {
		words = threeSizes.FindStringSubmatch(text)
	}
	if words == nil {
		return api.ErrFormat
	}
	s.rows, _ = strconv.Atoi(words[1])
	s.cols, _ = strconv.Atoi(words[2])
	if s.rows > 40 || s.cols > 40 {
		return api.ErrTooLarge
	}
	if s.symmetric && s.rows != s.cols {
		return api.ErrShape
	}
	places := s.rows * s.cols
	if s.symmetric {
		places = s.rows * (s.rows + 1) / 2
	}
	s.count = places
	if s.coordinate {
		s.count, _ = strconv.Atoi(words[3])
	}
	if s.count > places {
		return api.ErrCount
	}
	return api.OK
}

func (s *told) entry(text string) api.Errno {
	words := oneWord.FindStringSubmatch(text)
	if s.coordinate {
		words = entryWords.FindStringSubmatch(text)
	}
	if words == nil {
		return api.ErrFormat
	}
	if s.entries == s.count {
		return api.ErrCount
	}
	row, col := s.place(words)
	_, had := s.numbers[[2]int{row, col}]
	if row < 0 || row >= s.rows || col < 0 || col >= s.cols || s.symmetric && row < col || had {
		return api.ErrPlace
	}
	bits, ok := numberModel(words[len(words)-1])
	if !ok {
		return api.ErrNumber
	}
	s.numbers[[2]int{row, col}] = bits
	s.entries++
	return api.OK
}

// place is where an entry stands.
func (s *told) place(words []string) (row, col int) {
	if s.coordinate {
		row, _ = strconv.Atoi(words[1])
		col, _ = strconv.Atoi(words[2])
		return row - 1, col - 1
	}
	if !s.symmetric {
		return s.entries % s.rows, s.entries / s.rows
	}
	rest := s.entries
	for rest >= s.rows-col {
		rest -= s.rows - col
		col++
	}
	return col + rest, col
}

func (s *told) verdict() verdict {
	kind := 0
	if s.coordinate {
		kind += 2
	}
	if s.symmetric {
		kind++
	}
	numbers := make([]uint64, s.rows*s.cols)
	for p, bits := range s.numbers {
		numbers[p[0]*s.cols+p[1]] = bits
		if s.symmetric {
			numbers[p[1]*s.cols+p[0]] = bits
		}
	}
	return read(s.rows, s.cols, kind, numbers...)
}

func containerModel(file string) verdict {
	for i := range min(6, len(file)) {
		if i < 5 && file[i] != "ABAC\x01"[i] || i == 5 && file[i] > 1 {
			return verdict{err: api.ErrFormat, at: i + 1}
		}
	}
	if len(file) < 14 {
		return failsAtEnd(api.ErrEnd)
	}
	if !sumIsRight(file[:14]) {
		return verdict{err: api.ErrSum, at: 14}
	}
	rows, cols := int(file[6])+256*int(file[7]), int(file[8])+256*int(file[9])
	if rows > 40 || cols > 40 {
		return verdict{err: api.ErrTooLarge, at: 14}
	}
	length := 14 + 8*rows*cols + 4
	if len(file) < length {
		return failsAtEnd(api.ErrEnd)
	}
	if !sumIsRight(file[14:length]) {
		return verdict{err: api.ErrSum, at: length}
	}
	numbers := make([]uint64, rows*cols)
	for i := range numbers {
		place := i
		if file[5] == 1 {
			place = i%rows*cols + i/rows
		}
		bits := binary.LittleEndian.Uint64([]byte(file[14+8*i:]))
		numbers[place] = bits
		if math.IsNaN(math.Float64frombits(bits)) && bits != canonicalBits {
			return verdict{err: api.ErrNumber, at: length}
		}
	}
	if len(file) > length {
		return verdict{err: api.ErrFormat, at: length + 1}
	}
	return read(rows, cols, api.RowBox+int(file[5]), numbers...)
}

func sumIsRight(bytes string) bool {
	n := len(bytes) - 4
	return binary.LittleEndian.Uint32([]byte(bytes[n:])) == crc32.ChecksumIEEE([]byte(bytes[:n]))
}

// pick is one of some.
func pick[T any](r *rand.Rand, list ...T) T {
	return list[r.IntN(len(list))]
}

// randomText is a text that is nearly a file, and often is one.
func randomText(r *rand.Rand) string {
	symmetric, coordinate := r.IntN(2) == 0, r.IntN(2) == 0
	rows, cols := r.IntN(4), r.IntN(4)
	if symmetric && r.IntN(12) > 0 {
		cols = rows
	}
	layout, symmetry := "array", "general"
	if coordinate {
		layout = "coordinate"
	}
	if symmetric {
		symmetry = "symmetric"
	}
	lines := [][]string{{"%%MatrixMarket", "matrix", layout, "real", symmetry}}
	for r.IntN(3) == 0 {
		lines = append(lines, []string{pick(r, "%", "%x", "")})
	}
	var places [][2]int
	for i := range rows {
		for j := range cols {
			if !symmetric || i >= j {
				places = append(places, [2]int{i, j})
			}
		}
	}
	sizes := []string{strconv.Itoa(rows), strconv.Itoa(cols)}
	if coordinate {
		r.Shuffle(len(places), func(i, j int) { places[i], places[j] = places[j], places[i] })
		places = places[:r.IntN(len(places)+1)]
		sizes = append(sizes, strconv.Itoa(len(places)))
	}
	lines = append(lines, sizes)
	for _, p := range places {
		entry := []string{randomNumberText(r)}
		if coordinate {
			entry = []string{strconv.Itoa(p[0] + 1), strconv.Itoa(p[1] + 1), entry[0]}
		}
		lines = append(lines, entry)
	}
	return laidOut(r, lines)
}

func randomNumberText(r *rand.Rand) string {
	x := math.Float64frombits(r.Uint64())
	return pick(r, "1", "-0", "0", "1e400", "nan", "inf", ".5", "2.e-3", strings.ToLower(strconv.FormatFloat(x, 'e', r.IntN(17), 64)))
}

// laidOut joins lines of words with blanks of all sorts, and spoils some.
func laidOut(r *rand.Rand, lines [][]string) string {
	blank := func() string {
		return pick(r, " ", " ", " ", "\t", "\r", "  ", "\r\t ")
	}
	text := ""
	for i, words := range lines {
		if r.IntN(60) == 0 {
			words = append(words, pick(r, "1", "x", "%"))
		}
		if r.IntN(60) == 0 {
			words[r.IntN(len(words))] = pick(r, "1", "2", "3", "4", "0", "41", "x", "-1", "000000001", "0000000001", "999999999", "1e", "%")
		}
		if i > 0 && r.IntN(5) == 0 {
			text += blank()
		}
		text += strings.Join(words, blank())
		if r.IntN(5) == 0 {
			text += blank()
		}
		if r.IntN(200) == 0 {
			text += strings.Repeat(pick(r, " ", "x"), 150+r.IntN(60))
		}
		text += "\n"
		for r.IntN(12) == 0 {
			text += pick(r, "\n", " \n", "%\n", "\t\r\n", "%%%\n")
		}
		if r.IntN(60) == 0 {
			text += strings.Join(words, " ") + "\n"
		}
	}
	return text
}

// randomContainer is a container, or nearly one.
func randomContainer(r *rand.Rand) string {
	rows, cols := r.IntN(4), r.IntN(4)
	order := byte(r.IntN(2))
	numbers := make([]uint64, rows*cols)
	for i := range numbers {
		numbers[i] = r.Uint64() >> pick(r, 0, 2, 12)
		if numbers[i]&^signBits > infinityBits && r.IntN(3) > 0 {
			numbers[i] = canonicalBits
		}
	}
	file := headOf(order, uint16(rows), uint16(cols)) + withSum(payloadOf(numbers...))
	switch r.IntN(8) {
	case 0:
		file = turned(file, r.IntN(8*len(file)))
	case 1:
		file = headOf(order, uint16(pick(r, 40, 41, 256, 65535)), uint16(r.IntN(50)))
	case 2:
		file += pick(r, "\x00", "\n", "xx")
	case 3:
		file = file[:14] + withSum(payloadOf(1<<64-1)+payloadOf(numbers...)[min(8, 8*len(numbers)):])
	}
	return file
}

// changed is a file with a few bytes changed, put in or taken out.
func changed(r *rand.Rand, file string) string {
	const bytes = "\n\n\n  \t\r%0123456789+-.eEinfax,A\x00\xff"
	for range 1 + r.IntN(3) {
		at := r.IntN(len(file) + 1)
		b := string([]byte{bytes[r.IntN(len(bytes))]})
		switch behind := min(at+1, len(file)); r.IntN(4) {
		case 0:
			file = file[:at] + b + file[at:]
		case 1:
			file = file[:at] + b + file[behind:]
		case 2:
			file = file[:at] + file[behind:]
		case 3:
			file = file[:at] + file[r.IntN(len(file)+1):]
		}
	}
	return file
}

func TestReadRandom(t *testing.T) {
	r := rand.New(rand.NewPCG(9, 3))
	// How often each verdict is to come, at least.
	least := map[api.Errno]int{api.OK: 3000, api.ErrNumber: 500, api.ErrShape: 200, api.ErrFormat: 1000, api.ErrLine: 100, api.ErrTooLarge: 200, api.ErrPlace: 150, api.ErrCount: 500, api.ErrEnd: 1000, api.ErrSum: 500}
	seen := map[api.Errno]int{}
	for n := range 60000 {
		file := randomText(r)
		if n%4 == 0 {
			file = randomContainer(r)
		}
		switch r.IntN(6) {
		case 0:
			file = changed(r, file)
		case 1:
			file = file[:r.IntN(len(file)+1)]
		}
		want := modelOf(file)
		seen[want.err]++
		checkPieces(t, []string{file}, want)
		checkPieces(t, randomPieces(r, file, pick(r, 1, 5, 30)), want)
		if t.Failed() {
			return
		}
	}
	for err, count := range least {
		if seen[err] < count {
			t.Errorf("only %d files of the random ones are %d", seen[err], err)
		}
	}
}
