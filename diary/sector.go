package diary

import "fingerpost/slate"

// Where a sector's fields begin, behind the generation's number.
const (
	placeAt = 4
	flagsAt = 6
	sizeAt  = 7
	dataAt  = 8
	sumAt   = 58
	endAt   = 60
)

// room is how many bytes of data a sector has at most.
const room = sumAt - dataAt

// The flags of a sector.
const (
	isFirst = 1 << iota
	isLast
	isMarker
)

// What a sector is to whoever goes through a generation.
const (
	strange = iota // of another generation, or torn
	wrong          // of this one, but not as any was written
	part           // its record goes on behind it
	end            // its record's last one
	marker         // the marker's last one
)

// seal is a sector of a generation, at a place.
func seal(gen uint32, place int, flags byte, data []byte) slate.Sector {
	var x slate.Sector
	put(x[:placeAt], gen)
	put(x[placeAt:flagsAt], uint32(place))
	x[flagsAt] = flags
	x[sizeAt] = byte(len(data))
	copy(x[dataAt:sumAt], data)
	put(x[sumAt:endAt], sum(x))
	put(x[endAt:], gen)
	return x
}

// told is the number that a sector has at both ends, 0 if they don't agree.
func told(x slate.Sector) uint32 {
	if gen := number(x[:placeAt]); gen == ending(x) {
		return gen
	}
	return 0
}

// ending is the number at a sector's end.
func ending(x slate.Sector) uint32 {
	return number(x[endAt:])
}

// what tells what a sector is, of a generation, at a place, with a record under way or not.
func what(x slate.Sector, gen uint32, place int, underWay bool) int {
	flags := x[flagsAt]
	switch {
	case told(x) != gen:
		return strange
	case number(x[sumAt:endAt]) != sum(x), number(x[placeAt:flagsAt]) != uint32(place), x[sizeAt] > room:
		return wrong
	case (flags&isFirst != 0) == underWay:
		return wrong
	case flags&isLast == 0:
		return part
	case flags&isMarker == 0:
		return end
	}
	return marker
}

// data is what a sector has of its record.
func data(x slate.Sector) []byte {
	return x[dataAt : dataAt+int(x[sizeAt])]
}

// sum is that of all bytes ahead of the sum's own place.
func sum(x slate.Sector) uint32 {
	n := uint32(0)
	for _, b := range x[:sumAt] {
		n += uint32(b)
	}
	return n
}

// put lays the lowest bytes of a number, the highest first.
func put(to []byte, n uint32) {
	for at := len(to) - 1; at >= 0; at-- {
		to[at] = byte(n)
		n >>= 8
	}
}

// number is the one that bytes are.
func number(b []byte) uint32 {
	n := uint32(0)
	for _, x := range b {
		n = n<<8 | uint32(x)
	}
	return n
}
