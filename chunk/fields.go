package chunk

import "bollard/api"

// field is one of the fields behind a chunk's head.
type field int

const (
	fieldA field = iota
	fieldB
	fieldOut
	fieldIn
	fieldPpid
	fieldReport // Blocks and Dups are one, as the numbers of both stand ahead of them
	fieldSkips
	fieldParams
	fieldData
	fieldsInAll
)

// fields are those of a kind, in the order in which they stand.
func fields(kind uint8) []field {
	var behind []field
	switch kind {
	case api.Data:
		return []field{fieldA, fieldOut, fieldIn, fieldPpid, fieldData}
	case api.Init, api.InitAck:
		return []field{fieldA, fieldB, fieldOut, fieldIn, fieldPpid, fieldParams}
	case api.Sack:
		return []field{fieldA, fieldB, fieldReport}
	case api.Heartbeat, api.HeartbeatAck, api.Abort, api.Error, api.Reset:
		return []field{fieldParams}
	case api.ShutdownAck, api.CookieAck, api.ShutdownDone:
		return nil
	case api.Forward:
		behind = []field{fieldSkips}
		fallthrough // it begins as a Shutdown does, which ends there
	case api.Shutdown:
		return append([]field{fieldA}, behind...)
	default: // a CookieEcho, and kinds that nobody knows
		return []field{fieldData}
	}
}

// isSet tells that a field is not its zero value; a list without elements is none, nil or not.
func isSet(c api.Chunk, f field) bool {
	switch f {
	case fieldA:
		return c.A != 0
	case fieldB:
		return c.B != 0
	case fieldOut:
		return c.Out != 0
	case fieldIn:
		return c.In != 0
	case fieldPpid:
		return c.Ppid != 0
	case fieldReport:
		return len(c.Blocks) > 0 || len(c.Dups) > 0
	case fieldSkips:
		return len(c.Skips) > 0
	case fieldParams:
		return len(c.Params) > 0
	default:
		return len(c.Data) > 0
	}
}
