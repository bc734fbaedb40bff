package config_test

import (
	"slices"

	"weirkeep/api"
	"weirkeep/config"
)

// disk is the copies of each block by itself.
type disk [256][2]int

// blocksOf is what c's parts say, block by block.
func blocksOf(c config.Config) disk {
	var d disk
	for _, p := range c.Parts {
		for i := p.R.From; i < p.R.To; i++ {
			d[i] = [2]int{p.A, p.B}
		}
	}
	return d
}

// parts are as few as can be.
func (d disk) parts() []config.Part {
	var list []config.Part
	from := 0
	for i := range d {
		if i == 255 || d[i+1] != d[i] {
			list = append(list, part(from, i+1, d[i][0], d[i][1]))
			from = i + 1
		}
	}
	return list
}

// saidApply is what Apply answers of a config that is one, below the last epoch.
func saidApply(c config.Config, o config.Order) (config.Config, api.Errno) {
	c = clone(c)
	c.Epoch++
	e := api.ErrArg
	switch o.Kind {
	case 1:
		e = saidCome(&c, o.N)
	case 2:
		e = saidLeave(&c, o.N)
	case 3:
		e = saidPlace(&c, o)
	case 4:
		if slices.Contains([]int{1, 2, 3, 4, 5, 6, 7, 8}, o.N) {
			c.Tables, e = o.N, api.OK
		}
	}
	if e != api.OK {
		return config.Config{}, e
	}
	return c, api.OK
}

func saidCome(c *config.Config, n int) api.Errno {
	if n < 0 || n > 7 {
		return api.ErrArg
	}
	if slices.Contains(c.Servers, n) {
		return api.ErrTwice
	}
	c.Servers = append(c.Servers, n)
	slices.Sort(c.Servers)
	return api.OK
}

func saidLeave(c *config.Config, n int) api.Errno {
	if !slices.Contains(c.Servers, n) {
		return api.ErrNone
	}
	if len(c.Servers) < 3 {
		return api.ErrLost
	}
	c.Servers = slices.DeleteFunc(c.Servers, func(s int) bool { return s == n })
	d := blocksOf(*c)
	for i, copies := range d {
		at := slices.Index(copies[:], n)
		if at < 0 {
			continue
		}
		for _, s := range slices.Backward(c.Servers) { // the lowest one comes last, and stays
			if s != copies[1-at] {
				d[i][at] = s
			}
		}
	}
	c.Parts = d.parts()
	return api.OK
}

func saidPlace(c *config.Config, o config.Order) api.Errno {
	switch {
	case o.R.From < 0, o.R.From > 255, o.R.To > 256, o.R.To <= o.R.From:
		return api.ErrRange
	case o.N == o.M:
		return api.ErrArg
	case !slices.Contains(c.Servers, o.N), !slices.Contains(c.Servers, o.M):
		return api.ErrNone
	}
	d := blocksOf(*c)
	for i := o.R.From; i < o.R.To; i++ {
		d[i] = [2]int{o.N, o.M}
	}
	c.Parts = d.parts()
	return api.OK
}
