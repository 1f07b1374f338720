package frame

import (
	"sync"

	"hindcast/api"
	"hindcast/machine"
)

// run is of a system, for one entity.
type run struct {
	system int
	row    api.Row
}

// runsOf gives the runs of these systems, those of one by the entities' rising numbers. (Runs of one entity share its row, which the machine does not write into.)
func (m *making) runsOf(systems []int) []run {
	rows := m.world.Rows()
	var runs []run
	for _, number := range systems {
		s := m.program.Systems[number]
		wants, shuns := setOf(s.With, s.Reads, s.Writes), setOf(s.Without)
		for _, row := range rows {
			if has := setOfRow(row); has&wants == wants && has&shuns == 0 {
				runs = append(runs, run{number, row})
			}
		}
	}
	return runs
}

// outcomes gives what comes of each run. Each has a place of its own there, so it does not show who does it, and when.
func (m *making) outcomes(runs []run, workers int) []api.Outcome {
	list := make([]api.Outcome, len(runs))
	if workers < 2 {
		m.share(runs, list, 0, 1)
		return list
	}
	var group sync.WaitGroup
	for worker := range min(workers, len(runs)) {
		group.Add(1)
		go func() {
			defer group.Done()
			m.share(runs, list, worker, workers)
		}()
	}
	group.Wait()
	return list
}

// share does a worker's share of the runs: its own of the first ones, and from there on each that stands as many behind it as there are workers.
func (m *making) share(runs []run, list []api.Outcome, worker, workers int) {
	for i := worker; i < len(runs); i += workers {
		e := m.env
		e.System, e.Row = runs[i].system, runs[i].row
		list[i] = machine.Run(m.program, runs[i].system, e)
	}
}

// setOf gives all kinds of some lists as a number.
func setOf(lists ...[]int) int {
	set := 0
	for _, kinds := range lists {
		for _, kind := range kinds {
			set |= 1 << kind
		}
	}
	return set
}

func setOfRow(row api.Row) int {
	set := 0
	for _, p := range row.Parts {
		set |= 1 << p.Kind
	}
	return set
}
