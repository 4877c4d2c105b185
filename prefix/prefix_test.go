package prefix

import (
	"fmt"
	"strings"
	"testing"

	"district/api"
)

const (
	most  = 1<<63 - 1
	least = -1 << 63
)

// bits are the bits of an address as a text, the highest first.
func bits(addr int) string { return fmt.Sprintf("%016b", addr) }

func TestAddresses(t *testing.T) {
	for n := -70000; n <= 140000; n++ {
		if IsAddr(n) != (n >= 0 && n < 65536) {
			t.Fatalf("IsAddr(%d) is %v", n, IsAddr(n))
		}
	}
	for _, n := range []int{least, least + 1, -1 << 32, 1 << 32, most - 1, most} {
		if IsAddr(n) {
			t.Errorf("IsAddr(%d) is true", n)
		}
	}
}

func TestIsOfAllAddressesAndLengths(t *testing.T) {
	for addr := 0; addr <= api.MaxAddr; addr++ {
		text := bits(addr)
		for length := 0; length <= api.Bits; length++ {
			want := !strings.Contains(text[length:], "1")
			if Is(addr, length) != want {
				t.Fatalf("Is(%d, %d) is not %v", addr, length, want)
			}
		}
	}
}

func TestWrongNumbersAreNoPrefix(t *testing.T) {
	for _, length := range []int{least, -most, -64, -1, 17, 64, 65, most} {
		for _, addr := range []int{least, -1, 0, 1, 65535, 65536, most} {
			if Is(addr, length) || Contains(addr, length, addr) {
				t.Errorf("%d/%d is a prefix", addr, length)
			}
		}
	}
	for _, addr := range []int{least, -65536, -1, 65536, 131072, 1 << 32, most} {
		for length := 0; length <= api.Bits; length++ {
			if Is(addr, length) || Contains(addr, length, addr) {
				t.Errorf("%d/%d is a prefix", addr, length)
			}
		}
	}
}

func TestContains(t *testing.T) {
	texts := make([]string, api.MaxAddr+1)
	for addr := range texts {
		texts[addr] = bits(addr)
	}
	for _, start := range []int{0, 1, 0x1000, 0x5555, 0x8000, 0xaaaa, 0xfffe, 0xffff} {
		for length := 0; length <= api.Bits; length++ {
			addr := start >> (16 - length) << (16 - length)
			for other := 0; other <= api.MaxAddr; other++ {
				want := texts[other][:length] == texts[addr][:length]
				if Contains(addr, length, other) != want {
					t.Fatalf("Contains(%d, %d, %d) is not %v", addr, length, other, want)
				}
			}
			for _, other := range []int{least, -65536, -1, 65536, 65536 + addr, most} {
				if Contains(addr, length, other) {
					t.Errorf("%d/%d contains %d", addr, length, other)
				}
			}
		}
	}
	if Contains(1, 15, 1) {
		t.Errorf("what is no prefix contains an address")
	}
}

func TestOrder(t *testing.T) {
	order := [][2]int{{0, 0}, {0, 1}, {0, 16}, {1, 16}, {4096, 4}, {4096, 8}, {8192, 3}, {8192, 16}, {32768, 1}, {65535, 16}}
	for i, a := range order {
		for j, b := range order {
			if Before(a[0], a[1], b[0], b[1]) != (i < j) {
				t.Errorf("%v before %v is not %v", a, b, i < j)
			}
		}
	}
}
