package kit

import (
	"shotline/api"
	"shotline/check"
)

// BatchesIn returns the batches that a cylinder has.
func BatchesIn(k api.KitSetup, l []api.KitEvent, item string) ([]api.KitBatch, api.Errno) {
	s, x, e := thingBehind(k, l, item)
	if e == api.OK {
		e = x.checkKind(api.KitCylinder)
	}
	if e != api.OK {
		return nil, e
	}
	return s.batches(x.has), api.OK
}

// BadBatches returns all bad batches.
func BadBatches(k api.KitSetup, l []api.KitEvent) ([]api.KitBatch, api.Errno) {
	s, _, e := behind(k, l)
	if e != api.OK {
		return nil, e
	}
	return s.batches(s.isBad), api.OK
}

// Quarantined returns the names of all cylinders in quarantine.
func Quarantined(k api.KitSetup, l []api.KitEvent) ([]string, api.Errno) {
	s, _, e := behind(k, l)
	if e != api.OK {
		return nil, e
	}
	return s.names(s.inQuarantine), api.OK
}

// Reached returns the names of all cylinders that have a batch, or had it.
func Reached(k api.KitSetup, l []api.KitEvent, b api.KitBatch) ([]string, api.Errno) {
	s, x, e := thingBehind(k, l, b.Compressor)
	if e == api.OK {
		e = check.First(x.checkKind(api.KitCompressor), check.Range(b.Number, 0, x.present))
	}
	if e != api.OK {
		return nil, e
	}
	return s.names(func(y *thing) bool { return y.reached[b] }), api.OK
}

// batches returns the batches for which a condition holds, in the order of the items of their compressors, those of one
// compressor ascending.
func (s *shop) batches(is func(api.KitBatch) bool) []api.KitBatch {
	var all []api.KitBatch
	for _, x := range s.things {
		if x.Kind != api.KitCompressor {
			continue
		}
		for number := range x.present + 1 {
			all = append(all, x.batch(number))
		}
	}
	return find(all, is)
}

func (s *shop) isBad(b api.KitBatch) bool {
	return s.bad[b]
}

// badIn returns the bad batches that a thing has. The present batch of a compressor is bad just while this is stopped.
func (s *shop) badIn(x *thing) []api.KitBatch {
	return find(s.batches(s.isBad), x.has)
}

func (s *shop) inQuarantine(x *thing) bool {
	return x.Kind == api.KitCylinder && len(s.badIn(x)) > 0
}

// analyse ends the present batch of a compressor, or makes it bad.
func (s *shop) analyse(x *thing, passed bool) {
	if passed {
		x.begin(x.present + 1)
		return
	}
	s.bad[x.batch(x.present)] = true
}

// batch returns the batch of a compressor with a number.
func (x *thing) batch(number int) api.KitBatch {
	return api.KitBatch{Compressor: x.Name, Number: number}
}

// begin begins a batch of a compressor.
func (x *thing) begin(number int) {
	clear(x.batches)
	x.present = number
	x.batches[x.batch(number)] = true
}

func (x *thing) has(b api.KitBatch) bool {
	return x.batches[b]
}

// fillFrom adds what another thing gives to the batches of a cylinder.
func (x *thing) fillFrom(from *thing) {
	for b := range from.batches {
		x.batches[b] = true
		x.reached[b] = true
	}
}
