package reader

import (
	"gabion/api"
	"gabion/dev"
	"gabion/scan"
)

// stand is where a reader stands: at a place of a file, behind the frames that the walk took.
type stand struct {
	file *dev.Dev
	at   int
	walk *scan.Walk
}

// nextData reads up to the next data frame.
func (s *stand) nextData() (api.Frame, api.Errno) {
	for {
		f, e := s.nextFrame()
		if e != api.OK || f.Kind == api.DataFrame {
			return f, e
		}
	}
}

// nextFrame reads one frame, which the walk takes.
func (s *stand) nextFrame() (api.Frame, api.Errno) {
	f, behind, e := scan.At(s.file, s.at)
	if e != api.OK {
		return api.Frame{}, e
	}
	if e := s.walk.Next(f, s.at); e != api.OK {
		return api.Frame{}, e
	}
	s.at = behind
	return f, api.OK
}
