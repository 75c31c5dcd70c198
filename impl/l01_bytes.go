package impl

const MaxBytes = 65536
const MaxBody = 1000

const (
	FrameWell = iota
	FrameShort
	FrameBad
	FrameSum
)

const maxNumSize = 8
const maxFrameKind = 255

// A frame is the kind and the body's length, the body, and the sum of these.
const frameLenAt = 1
const frameLenSize = 2
const frameHead = frameLenAt + frameLenSize
const frameTail = 4

const crcTurn uint32 = 0xEDB88320
const crcAllOnes uint32 = 0xFFFFFFFF

func PutNum(n int, size int) []byte {
	if n < 0 || size < 1 || size > maxNumSize {
		return nil
	}
	rest := uint64(n)
	b := make([]byte, size)
	for i := range b {
		b[i] = byte(rest)
		rest >>= 8
	}
	if rest != 0 {
		return nil
	}
	return b
}

func GetNum(b []byte, at int, size int) (int, bool) {
	if size < 1 || size > maxNumSize {
		return 0, false
	}
	// The size is taken off the length, since at and size together could wrap round.
	if at < 0 || at > len(b)-size {
		return 0, false
	}
	n := uint64(0)
	for i := at + size - 1; i >= at; i-- {
		n = n<<8 | uint64(b[i])
	}
	if n>>63 != 0 {
		return 0, false
	}
	return int(n), true
}

func Crc(b []byte) int {
	if len(b) > MaxBytes {
		return -1
	}
	table := crcTable()
	sum := crcAllOnes
	for _, c := range b {
		sum = sum>>8 ^ table[byte(sum)^c]
	}
	return int(sum ^ crcAllOnes)
}

// The eight steps of a byte hang on eight bits of the sum alone, so that each
// worth of these is worked out once a call and not once a byte.
func crcTable() [256]uint32 {
	var table [256]uint32
	for i := range table {
		table[i] = crcEightSteps(uint32(i))
	}
	return table
}

func crcEightSteps(sum uint32) uint32 {
	for range 8 {
		fellOut := sum & 1
		sum >>= 1
		if fellOut == 1 {
			sum ^= crcTurn
		}
	}
	return sum
}

func Frame(kind int, body []byte) []byte {
	if kind < 1 || kind > maxFrameKind || len(body) > MaxBody {
		return nil
	}
	end := frameHead + len(body)
	frame := make([]byte, end+frameTail)
	frame[0] = byte(kind)
	copy(frame[frameLenAt:frameHead], PutNum(len(body), frameLenSize))
	copy(frame[frameHead:end], body)
	copy(frame[end:], PutNum(Crc(frame[:end]), frameTail))
	return frame
}

func FrameAt(b []byte, at int) (int, []byte, int, int) {
	if len(b) > MaxBytes || at < 0 || at > len(b)-frameHead {
		return 0, nil, 0, FrameShort
	}
	kind := int(b[at])
	size, _ := GetNum(b, at+frameLenAt, frameLenSize)
	if kind == 0 || size > MaxBody {
		return 0, nil, 0, FrameBad
	}
	from := at + frameHead
	end := from + size
	sum, whole := GetNum(b, end, frameTail)
	if !whole {
		return 0, nil, 0, FrameShort
	}
	if sum != Crc(b[at:end]) {
		return 0, nil, 0, FrameSum
	}
	body := make([]byte, size)
	copy(body, b[from:end])
	return kind, body, end + frameTail, FrameWell
}
