package audit

import (
	"tappet/api"
	"tappet/cmap"
)

// maps does each operation again, on maps of its own.
type maps struct {
	own []*cmap.Map
}

// newMaps has empty maps, as the config says. ErrArg.
func newMaps(c api.Config) (*maps, api.Errno) {
	if c.Shards < 1 || c.Shards > api.MaxShards || len(c.Maps) > api.MaxMaps {
		return nil, api.ErrArg
	}
	m := &maps{}
	for _, d := range c.Maps {
		own, e := cmap.New(d, c.Shards)
		if e != api.OK {
			return nil, e
		}
		m.own = append(m.own, own)
	}
	return m, api.OK
}

func (m *maps) wrong(e api.Entry) bool {
	if e.What != api.MarkApply {
		return false
	}
	i := e.Item
	if i.Map < 0 || i.Map >= len(m.own) || i.Op < 0 || i.Op >= api.MapOps {
		return true
	}
	return m.own[i.Map].Do(i.Op, i.Key, i.Val) != e.Res
}
