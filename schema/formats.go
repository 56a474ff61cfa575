package schema

// Formats are numbered from noFormat to lastFormat.
const (
	noFormat   = 0
	lastFormat = 6
)

// formatPattern tells the pattern of a format.
func formatPattern(format int) string {
	switch format {
	case 1:
		return `^\d{4}-\d{2}-\d{2}$`
	case 2:
		return `^\d{2}:\d{2}(:\d{2})?$`
	case 3:
		return `^[0-9a-fA-F]+$`
	case 4:
		return `^(\d{1,3}\.){3}\d{1,3}$`
	case 5:
		return `^[^@\s]+@[^@\s]+$`
	case lastFormat:
		return `^\w+(-\w+)*$`
	}
	return ""
}
