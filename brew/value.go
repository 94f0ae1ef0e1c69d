package brew

import (
	"stanhope/carve"
	"stanhope/typ"
	"stanhope/value"
)

// Value makes a value of a type.
func (m *Maker) Value(t typ.Type, deep int) value.Value {
	t, _ = typ.Resolve(m.Types, t)
	switch t.Kind {
	case typ.Scalar:
		return carve.Scalar(t.Tag, one(m, texts(t.Tag)...))
	case typ.Enum:
		return carve.Scalar(t.Tag, one(m, t.Words...))
	case typ.Record:
		return m.entries(t, deep)
	case typ.List, typ.Keyed:
		return m.items(t, deep)
	case typ.Union:
		if deep <= 0 {
			return m.Value(t.Items[0], deep-1)
		}
		return m.Value(one(m, t.Items...), deep-1)
	}
	return carve.Leaf(m.Pick(5))
}

// texts are some that scalars of a tag may have.
func texts(tag string) []string {
	switch tag {
	case "null":
		return []string{""}
	case "bool":
		return []string{"true", "false"}
	case "int":
		return []string{"0", "1", "-5", "7"}
	case "str":
		return []string{"", "a", "x", "z"}
	}
	return []string{"", "a", "b"}
}

// entries makes a mapping of a type.
func (m *Maker) entries(t typ.Type, deep int) value.Value {
	e := make(map[string]value.Value)
	if len(t.Items) > 0 && deep > 0 {
		for _, k := range some(m, []string{"a", "b", "k", "q", "r"}, 0) {
			e[k] = m.Value(t.Items[0], deep-1)
		}
	}
	for _, f := range t.Fields {
		delete(e, f.Key)
		if !f.Optional || deep > 0 && m.Pick(2) == 0 {
			e[f.Key] = m.Value(f.Type, deep-1)
		}
	}
	return carve.Laid(t.Tag, e)
}

// items makes a sequence of a type.
func (m *Maker) items(t typ.Type, deep int) value.Value {
	v := value.Value{Kind: value.Seq, Tag: t.Tag}
	met := make(map[string]struct{})
	for range m.Pick(4) * min(deep, 1) {
		x := m.Value(t.Items[0], deep-1)
		k, _ := x.Get(t.Name)
		if _, again := met[k.Text]; again && t.Kind == typ.Keyed {
			continue
		}
		met[k.Text] = struct{}{}
		v.Kids = append(v.Kids, x)
	}
	return v
}
