package rete

// note writes down what takes a change back.
func (n *Net) note(undo func()) { n.log = append(n.log, undo) }

// back takes out the rows with numbers of mark and above: what they changed is taken back, the last change first.
func (n *Net) back(mark int) {
	if mark == len(n.rows) {
		return
	}
	for begin := n.marks[mark]; len(n.log) > begin; {
		last := len(n.log) - 1
		undo := n.log[last]
		n.log[last] = nil // else the spare room would hold on to it
		n.log = n.log[:last]
		undo()
	}
}
