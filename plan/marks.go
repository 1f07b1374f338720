package plan

// marks are what systems that were looked at have left on their kinds: for each kind the greatest mark of those that wrote it, and of those that read or wrote it. By them a system is held against all that were ahead of it at once.
type marks struct {
	written, touched map[int]int
}

func noMarks() marks { return marks{map[int]int{}, map[int]int{}} }

// search finds the greatest mark of those that conflict with a system, and 0 if there are none. At a mark of enough it ends: no greater one would tell more.
func (m marks) search(s access, enough int) int {
	greatest := 0
search:
	for _, side := range []struct {
		kinds []int
		marks map[int]int
	}{{s.reads, m.written}, {s.writes, m.touched}} {
		for _, kind := range side.kinds {
			greatest = max(greatest, side.marks[kind])
			if greatest >= enough {
				break search
			}
		}
	}
	return greatest
}

// leave puts a system's mark on its kinds.
func (m marks) leave(s access, mark int) {
	for _, kind := range s.reads {
		m.touched[kind] = max(m.touched[kind], mark)
	}
	for _, kind := range s.writes {
		m.touched[kind] = max(m.touched[kind], mark)
		m.written[kind] = max(m.written[kind], mark)
	}
}
