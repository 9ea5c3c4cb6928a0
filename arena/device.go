package arena

import (
	"fusee/api"
	"fusee/block"
	"fusee/class"
	"fusee/nvm"
)

// device is the memory under a store. The arena embeds it: what it does has no name outside, so that all that an arena shows of it is the accessor.
type device struct {
	dev *nvm.Dev
}

// storeHead stores the first line of the block b at line.
func (d device) storeHead(line int, b api.Block) {
	// What is published was found valid ahead of this; a block that is not has no head.
	if lines, e := block.Encode(b); e == api.OK {
		d.dev.Store(line, 0, lines[:api.LineBytes])
	}
}

// scrub makes the head at line that of a draft of class c.
func (d device) scrub(line int, c int) { d.dev.Store(line, 0, block.Draft(c)) }

// read returns the block of this kind that k is the link of, if its lines still hold it.
func (d device) read(k api.Link, kind int) (api.Block, bool) {
	var lines []byte
	for i := range class.Span(k.Class) {
		// A line that is not there has no bytes, and a block with too few of them is not decoded.
		line, _ := d.dev.Load(k.Line + i)
		lines = append(lines, line...)
	}
	b, ok := block.Decode(lines)
	if !ok || b.Kind != kind || linkOf(k.Line, b) != k {
		return api.Block{}, false
	}
	return b, true
}
