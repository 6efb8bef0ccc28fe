package dump

// halfBytes is what four turns make of a sum whose other bits are 0, by its lowest half byte. A turn shifts down, and changes by the sum's own number where the bit that falls out is 1; what it does to the other bits is a shift alone, so that the two can be put together by exclusive or.
var halfBytes = [16]uint32{
	0x00000000, 0x1DB71064, 0x3B6E20C8, 0x26D930AC,
	0x76DC4190, 0x6B6B51F4, 0x4DB26158, 0x5005713C,
	0xEDB88320, 0xF00F9344, 0xD6D6A3E8, 0xCB61B38C,
	0x9B64C2B0, 0x86D3D2D4, 0xA00AE278, 0xBDBDF21C,
}
