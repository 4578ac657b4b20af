package codec

import "twin/api"

// Sizes of the parts of a hint's text.
const (
	hintHead    = 3 // `TH` and a byte
	pairingHead = 2
	pairSize    = 2
)

// EncodeHint tells a hint's text (P5).
func EncodeHint(h api.Hint) (string, api.Errno) {
	if !wellMadeHint(h) {
		return "", api.ErrHint
	}
	s := "TH"
	s += oneByte(len(h.Blocks))
	for i := 0; i < len(h.Blocks); i++ {
		s += pairingText(h.Blocks[i])
	}
	return s, api.OK
}

// DecodeHint tells the hint of a text (P5).
func DecodeHint(s string) (api.Hint, api.Errno) {
	if byteAt(s, 0) != 'T' || byteAt(s, 1) != 'H' {
		return api.Hint{}, api.ErrHint
	}
	var h api.Hint
	count := byteAt(s, 2)
	at := hintHead
	for i := 0; i < count; i++ {
		b := pairingAt(s, at)
		h.Blocks = append(h.Blocks, b)
		at += pairingSize(b)
	}
	if at != len(s) || !wellMadeHint(h) {
		return api.Hint{}, api.ErrHint
	}
	return h, api.OK
}

func pairingText(b api.Pairing) string {
	s := twoBytes(b.Source, len(b.Pairs))
	for i := 0; i < len(b.Pairs); i++ {
		s += twoBytes(b.Pairs[i].Reg, b.Pairs[i].Place)
	}
	return s
}

// pairingAt reads the block whose text begins at number at. Where the text ends too early, fields are -1.
func pairingAt(s string, at int) api.Pairing {
	b := api.Pairing{Source: byteAt(s, at)}
	count := byteAt(s, at+1)
	next := at + pairingHead
	for i := 0; i < count; i++ {
		p := api.Pair{Reg: byteAt(s, next), Place: byteAt(s, next+1)}
		b.Pairs = append(b.Pairs, p)
		next += pairSize
	}
	return b
}

func pairingSize(b api.Pairing) int {
	return pairingHead + pairSize*len(b.Pairs)
}

// wellMadeHint tells whether a hint is well made (P5).
func wellMadeHint(h api.Hint) bool {
	if len(h.Blocks) < 1 || len(h.Blocks) > api.MaxBlocks {
		return false
	}
	for i := 0; i < len(h.Blocks); i++ {
		if !wellMadePairing(h.Blocks[i]) {
			return false
		}
	}
	return true
}

func wellMadePairing(b api.Pairing) bool {
	if !isBelow(b.Source, api.MaxBlocks) || len(b.Pairs) > api.MaxPairs {
		return false
	}
	last := -1
	for i := 0; i < len(b.Pairs); i++ {
		p := b.Pairs[i]
		if !isBelow(p.Reg, api.MaxRegs) || !isBelow(p.Place, api.MaxRegs+api.MaxSlots) {
			return false
		}
		if p.Place <= last {
			return false
		}
		last = p.Place
	}
	return true
}
