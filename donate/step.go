package donate

import "donate/api"

// step lets thread t do its next instruction, and tells the code that this
// ended with. End and When set At and Last by rules of their own.
func (k *Kernel) step(t int) api.Code {
	instr := k.nextInstr(t)
	switch instr.Op {
	case api.OpEnd:
		k.endJob(t)
		return api.Done
	case api.OpWhen:
		k.jumpWhen(t, instr.A, instr.B)
		return api.Done
	}
	code := k.do(t, instr)
	k.threads[t].at++
	k.threads[t].last = code
	return code
}

// nextInstr tells the instruction at the thread's At: behind its code an End.
func (k *Kernel) nextInstr(t int) api.Instr {
	at := k.threads[t].at
	if at >= len(k.threads[t].code) {
		return api.Instr{Op: api.OpEnd}
	}
	return k.threads[t].code[at]
}

// do lets thread t do an instruction behind which it goes on at the next place.
func (k *Kernel) do(t int, instr api.Instr) api.Code {
	switch instr.Op {
	case api.OpYield:
		k.drawTicket(t)
	case api.OpPrio:
		k.threads[instr.A].base = instr.B
	case api.OpSleep:
		return k.beginWait(t, api.ForTime, 0, instr.A)
	case api.OpLock:
		return k.lock(t, instr.A, instr.B)
	case api.OpUnlock:
		return k.unlock(t, instr.A)
	case api.OpDown:
		return k.down(t, instr.A, instr.B)
	case api.OpUp:
		return k.up(instr.A)
	case api.OpSend:
		return k.send(instr.A, instr.B)
	case api.OpRecv:
		return k.receive(t, instr.A, instr.B)
	}
	return api.Done
}

// jumpWhen goes on at a place if the thread's last code is the given one.
func (k *Kernel) jumpWhen(t int, last int, place int) {
	if int(k.threads[t].last) == last {
		k.threads[t].at = place
		return
	}
	k.threads[t].at++
}
