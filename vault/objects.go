package vault

import (
	"strconv"
	"strings"

	"holdfast/api"
	"holdfast/manifest"
	"holdfast/store"
)

const (
	manifestMark  = "m"
	segmentMark   = "p"
	joint         = "-" // between a manifest's number and a place in it
	numberFigures = 6
	placeFigures  = 4
	numbers       = 1000000 // of manifests
	places        = 1024    // of a manifest's parts
)

// manifestName is the name of a manifest's object.
func manifestName(number int) string { return manifestMark + padded(number, numberFigures) }

// segmentName is the name of a segment's object.
func segmentName(number, place int) string {
	return segmentMark + padded(number, numberFigures) + joint + padded(place, placeFigures)
}

// padded is a number in so many figures, of which it has no more.
func padded(number, figures int) string {
	text := strconv.Itoa(number)
	return strings.Repeat("0", figures-len(text)) + text
}

// placeOf is the place that a segment's name tells. Any other name tells something, too: whoever asks holds it against the name of that.
func placeOf(name string) (number, place int) {
	ahead, behind, _ := strings.Cut(strings.TrimPrefix(name, segmentMark), joint)
	number, _ = strconv.Atoi(ahead)
	place, _ = strconv.Atoi(behind)
	return number, place
}

// takeManifests takes the manifests from number 0 on, as long as there is an object.
func takeManifests(objects *store.Store) ([]manifest.Manifest, error) {
	var list []manifest.Manifest
	for number := range numbers {
		b, err := objects.Get(manifestName(number))
		if err == api.ErrNone {
			break
		}
		if err != nil {
			return nil, err
		}
		m, err := manifest.Take(b)
		if err != nil {
			return nil, err
		}
		list = append(list, m)
	}
	return list, nil
}
